
/- Contracts of math/bits.Div64 at the divisors 26 to 33: the quotient of two words by a small number, the library's own text walked. -/

import Derived.Test.YthncgocjegalhaaNDiv0

namespace Go.Proofs.Ythncgocjegalhaa.Nm

open Go.RowKit

set_option linter.unusedVariables false

set_option maxRecDepth 20000 in
theorem bitsDiv_26 (hi lo : Nat) (hh1 : 0 < hi) (hh : hi < 26) (hl : lo < 18446744073709551616) (w : World) :
    Calls Try.prog 80 #[.int .u64 (hi : Nat), .int .u64 (lo : Nat), .int .u64 ((26 : Nat) : Int)] w fun e w' => (∃ r : Int, e = .returned (.tuple #[.int .u64 (((hi * 18446744073709551616 + lo) / 26 : Nat) : Int), .int .u64 r])) ∧ ∃ n, w' = w.drewN n := by
  have hz := fun w => bitsLead 26 5 (by omega) (by decide +kernel) (by omega) (by omega) w
  have hy0 : bits BinOp.and IntKind.u64 14987979559889010688 4294967295 = 0 := by
    have h := and_mod 14987979559889010688 (by omega)
    simpa using h
  obtain ⟨U, hU⟩ : ∃ U, U = hi * 576460752303423488 + lo / 32 := ⟨_, rfl⟩
  obtain ⟨T, hT⟩ : ∃ T, T = lo * 576460752303423488 % 18446744073709551616 := ⟨_, rfl⟩
  have hor : bits BinOp.or IntKind.u64 ((hi : Int) * 576460752303423488) ((lo : Int) / 32) = (U : Int) := by
    have h := or_plus hi (lo / 32) 59 (by omega) (by omega) (by omega)
    rw [hU]
    simpa using h
  have hw : IntKind.u64.wrap ((lo : Int) * 576460752303423488) = (T : Int) := by
    rw [IntKind.wrap_u64, hT]; omega
  have hand : bits BinOp.and IntKind.u64 (T : Int) 4294967295 = (T : Int) % 4294967296 := and_mod T (by omega)
  have hUb : U < 14987979559889010688 := by omega
  have hTb : T < 18446744073709551616 := by omega
  have hfin : Hid ((hi * 18446744073709551616 + lo) / 26 = (U * 4294967296 + T / 4294967296) / 3489660928) := by
    show _ = _
    omega
  clear hU hT
  obtain ⟨M1, hM1, bM1, dM1⟩ := wrapU ((U : Int) * 4294967296)
  obtain ⟨M2, hM2, bM2, dM2⟩ := wrapU ((M1 : Int) + (T : Int) / 4294967296)
  obtain ⟨M3, hM3, bM3, dM3⟩ := wrapU ((U : Int) / 3489660928 * 14987979559889010688)
  obtain ⟨V, hV, bV, dV⟩ := wrapU ((M2 : Int) - (M3 : Int))
  have eV : Hid ((V : Int) = ((U : Int) - (U : Int) / 3489660928 * 3489660928) * 4294967296 + (T : Int) / 4294967296) := by
    show _ = _
    omega
  have hVb : V < 14987979559889010688 := by have := eV.out; omega
  clear dM1 dM2 dM3 dV
  obtain ⟨N1, hN1, bN1, dN1⟩ := wrapU ((V : Int) * 4294967296)
  obtain ⟨N2, hN2, bN2, dN2⟩ := wrapU ((N1 : Int) + (T : Int) % 4294967296)
  obtain ⟨N3, hN3, bN3, dN3⟩ := wrapU ((V : Int) / 3489660928 * 14987979559889010688)
  obtain ⟨R, hR, bR, dR⟩ := wrapU ((N2 : Int) - (N3 : Int))
  clear dN1 dN2 dN3 dR
  have g1 : decide ((4294967296 : Int) ≤ (U : Int) / 3489660928) = false := by simp only [decide_eq_false_iff_not]; omega
  have g2 : decide ((4294967296 : Int) ≤ (V : Int) / 3489660928) = false := by simp only [decide_eq_false_iff_not]; omega
  go_enter Try.func80, Try.ntmps80
  go_wp2_with (go_at_call 81; refine (hz _).mono ?_; rintro e w' ⟨rfl, rfl⟩)
  go_loop [15, 16] (fun q r => q = .int .u64 ((U : Int) / 3489660928) ∧ r = .int .u64 ((U : Int) - (U : Int) / 3489660928 * 3489660928)) (fun _ _ => 0)
  case atStart => exact ⟨rfl, rfl⟩
  case round =>
    obtain ⟨rfl, rfl⟩ := hrel
    go_wp2
    go_loop [18, 16] (fun q r => q = .int .u64 ((V : Int) / 3489660928) ∧ r = .int .u64 ((V : Int) - (V : Int) / 3489660928 * 3489660928)) (fun _ _ => 0)
    case atStart => exact ⟨rfl, rfl⟩
    case round =>
      obtain ⟨rfl, rfl⟩ := hrel
      go_wp2
      go_ret2
      refine ⟨ret_tup ?_, 0, rfl⟩
      have h1 := hfin.out
      have h2 := eV.out
      omega

set_option maxRecDepth 20000 in
theorem bitsDiv_27 (hi lo : Nat) (hh1 : 0 < hi) (hh : hi < 27) (hl : lo < 18446744073709551616) (w : World) :
    Calls Try.prog 80 #[.int .u64 (hi : Nat), .int .u64 (lo : Nat), .int .u64 ((27 : Nat) : Int)] w fun e w' => (∃ r : Int, e = .returned (.tuple #[.int .u64 (((hi * 18446744073709551616 + lo) / 27 : Nat) : Int), .int .u64 r])) ∧ ∃ n, w' = w.drewN n := by
  have hz := fun w => bitsLead 27 5 (by omega) (by decide +kernel) (by omega) (by omega) w
  have hy0 : bits BinOp.and IntKind.u64 15564440312192434176 4294967295 = 0 := by
    have h := and_mod 15564440312192434176 (by omega)
    simpa using h
  obtain ⟨U, hU⟩ : ∃ U, U = hi * 576460752303423488 + lo / 32 := ⟨_, rfl⟩
  obtain ⟨T, hT⟩ : ∃ T, T = lo * 576460752303423488 % 18446744073709551616 := ⟨_, rfl⟩
  have hor : bits BinOp.or IntKind.u64 ((hi : Int) * 576460752303423488) ((lo : Int) / 32) = (U : Int) := by
    have h := or_plus hi (lo / 32) 59 (by omega) (by omega) (by omega)
    rw [hU]
    simpa using h
  have hw : IntKind.u64.wrap ((lo : Int) * 576460752303423488) = (T : Int) := by
    rw [IntKind.wrap_u64, hT]; omega
  have hand : bits BinOp.and IntKind.u64 (T : Int) 4294967295 = (T : Int) % 4294967296 := and_mod T (by omega)
  have hUb : U < 15564440312192434176 := by omega
  have hTb : T < 18446744073709551616 := by omega
  have hfin : Hid ((hi * 18446744073709551616 + lo) / 27 = (U * 4294967296 + T / 4294967296) / 3623878656) := by
    show _ = _
    omega
  clear hU hT
  obtain ⟨M1, hM1, bM1, dM1⟩ := wrapU ((U : Int) * 4294967296)
  obtain ⟨M2, hM2, bM2, dM2⟩ := wrapU ((M1 : Int) + (T : Int) / 4294967296)
  obtain ⟨M3, hM3, bM3, dM3⟩ := wrapU ((U : Int) / 3623878656 * 15564440312192434176)
  obtain ⟨V, hV, bV, dV⟩ := wrapU ((M2 : Int) - (M3 : Int))
  have eV : Hid ((V : Int) = ((U : Int) - (U : Int) / 3623878656 * 3623878656) * 4294967296 + (T : Int) / 4294967296) := by
    show _ = _
    omega
  have hVb : V < 15564440312192434176 := by have := eV.out; omega
  clear dM1 dM2 dM3 dV
  obtain ⟨N1, hN1, bN1, dN1⟩ := wrapU ((V : Int) * 4294967296)
  obtain ⟨N2, hN2, bN2, dN2⟩ := wrapU ((N1 : Int) + (T : Int) % 4294967296)
  obtain ⟨N3, hN3, bN3, dN3⟩ := wrapU ((V : Int) / 3623878656 * 15564440312192434176)
  obtain ⟨R, hR, bR, dR⟩ := wrapU ((N2 : Int) - (N3 : Int))
  clear dN1 dN2 dN3 dR
  have g1 : decide ((4294967296 : Int) ≤ (U : Int) / 3623878656) = false := by simp only [decide_eq_false_iff_not]; omega
  have g2 : decide ((4294967296 : Int) ≤ (V : Int) / 3623878656) = false := by simp only [decide_eq_false_iff_not]; omega
  go_enter Try.func80, Try.ntmps80
  go_wp2_with (go_at_call 81; refine (hz _).mono ?_; rintro e w' ⟨rfl, rfl⟩)
  go_loop [15, 16] (fun q r => q = .int .u64 ((U : Int) / 3623878656) ∧ r = .int .u64 ((U : Int) - (U : Int) / 3623878656 * 3623878656)) (fun _ _ => 0)
  case atStart => exact ⟨rfl, rfl⟩
  case round =>
    obtain ⟨rfl, rfl⟩ := hrel
    go_wp2
    go_loop [18, 16] (fun q r => q = .int .u64 ((V : Int) / 3623878656) ∧ r = .int .u64 ((V : Int) - (V : Int) / 3623878656 * 3623878656)) (fun _ _ => 0)
    case atStart => exact ⟨rfl, rfl⟩
    case round =>
      obtain ⟨rfl, rfl⟩ := hrel
      go_wp2
      go_ret2
      refine ⟨ret_tup ?_, 0, rfl⟩
      have h1 := hfin.out
      have h2 := eV.out
      omega

set_option maxRecDepth 20000 in
theorem bitsDiv_28 (hi lo : Nat) (hh1 : 0 < hi) (hh : hi < 28) (hl : lo < 18446744073709551616) (w : World) :
    Calls Try.prog 80 #[.int .u64 (hi : Nat), .int .u64 (lo : Nat), .int .u64 ((28 : Nat) : Int)] w fun e w' => (∃ r : Int, e = .returned (.tuple #[.int .u64 (((hi * 18446744073709551616 + lo) / 28 : Nat) : Int), .int .u64 r])) ∧ ∃ n, w' = w.drewN n := by
  have hz := fun w => bitsLead 28 5 (by omega) (by decide +kernel) (by omega) (by omega) w
  have hy0 : bits BinOp.and IntKind.u64 16140901064495857664 4294967295 = 0 := by
    have h := and_mod 16140901064495857664 (by omega)
    simpa using h
  obtain ⟨U, hU⟩ : ∃ U, U = hi * 576460752303423488 + lo / 32 := ⟨_, rfl⟩
  obtain ⟨T, hT⟩ : ∃ T, T = lo * 576460752303423488 % 18446744073709551616 := ⟨_, rfl⟩
  have hor : bits BinOp.or IntKind.u64 ((hi : Int) * 576460752303423488) ((lo : Int) / 32) = (U : Int) := by
    have h := or_plus hi (lo / 32) 59 (by omega) (by omega) (by omega)
    rw [hU]
    simpa using h
  have hw : IntKind.u64.wrap ((lo : Int) * 576460752303423488) = (T : Int) := by
    rw [IntKind.wrap_u64, hT]; omega
  have hand : bits BinOp.and IntKind.u64 (T : Int) 4294967295 = (T : Int) % 4294967296 := and_mod T (by omega)
  have hUb : U < 16140901064495857664 := by omega
  have hTb : T < 18446744073709551616 := by omega
  have hfin : Hid ((hi * 18446744073709551616 + lo) / 28 = (U * 4294967296 + T / 4294967296) / 3758096384) := by
    show _ = _
    omega
  clear hU hT
  obtain ⟨M1, hM1, bM1, dM1⟩ := wrapU ((U : Int) * 4294967296)
  obtain ⟨M2, hM2, bM2, dM2⟩ := wrapU ((M1 : Int) + (T : Int) / 4294967296)
  obtain ⟨M3, hM3, bM3, dM3⟩ := wrapU ((U : Int) / 3758096384 * 16140901064495857664)
  obtain ⟨V, hV, bV, dV⟩ := wrapU ((M2 : Int) - (M3 : Int))
  have eV : Hid ((V : Int) = ((U : Int) - (U : Int) / 3758096384 * 3758096384) * 4294967296 + (T : Int) / 4294967296) := by
    show _ = _
    omega
  have hVb : V < 16140901064495857664 := by have := eV.out; omega
  clear dM1 dM2 dM3 dV
  obtain ⟨N1, hN1, bN1, dN1⟩ := wrapU ((V : Int) * 4294967296)
  obtain ⟨N2, hN2, bN2, dN2⟩ := wrapU ((N1 : Int) + (T : Int) % 4294967296)
  obtain ⟨N3, hN3, bN3, dN3⟩ := wrapU ((V : Int) / 3758096384 * 16140901064495857664)
  obtain ⟨R, hR, bR, dR⟩ := wrapU ((N2 : Int) - (N3 : Int))
  clear dN1 dN2 dN3 dR
  have g1 : decide ((4294967296 : Int) ≤ (U : Int) / 3758096384) = false := by simp only [decide_eq_false_iff_not]; omega
  have g2 : decide ((4294967296 : Int) ≤ (V : Int) / 3758096384) = false := by simp only [decide_eq_false_iff_not]; omega
  go_enter Try.func80, Try.ntmps80
  go_wp2_with (go_at_call 81; refine (hz _).mono ?_; rintro e w' ⟨rfl, rfl⟩)
  go_loop [15, 16] (fun q r => q = .int .u64 ((U : Int) / 3758096384) ∧ r = .int .u64 ((U : Int) - (U : Int) / 3758096384 * 3758096384)) (fun _ _ => 0)
  case atStart => exact ⟨rfl, rfl⟩
  case round =>
    obtain ⟨rfl, rfl⟩ := hrel
    go_wp2
    go_loop [18, 16] (fun q r => q = .int .u64 ((V : Int) / 3758096384) ∧ r = .int .u64 ((V : Int) - (V : Int) / 3758096384 * 3758096384)) (fun _ _ => 0)
    case atStart => exact ⟨rfl, rfl⟩
    case round =>
      obtain ⟨rfl, rfl⟩ := hrel
      go_wp2
      go_ret2
      refine ⟨ret_tup ?_, 0, rfl⟩
      have h1 := hfin.out
      have h2 := eV.out
      omega

set_option maxRecDepth 20000 in
theorem bitsDiv_29 (hi lo : Nat) (hh1 : 0 < hi) (hh : hi < 29) (hl : lo < 18446744073709551616) (w : World) :
    Calls Try.prog 80 #[.int .u64 (hi : Nat), .int .u64 (lo : Nat), .int .u64 ((29 : Nat) : Int)] w fun e w' => (∃ r : Int, e = .returned (.tuple #[.int .u64 (((hi * 18446744073709551616 + lo) / 29 : Nat) : Int), .int .u64 r])) ∧ ∃ n, w' = w.drewN n := by
  have hz := fun w => bitsLead 29 5 (by omega) (by decide +kernel) (by omega) (by omega) w
  have hy0 : bits BinOp.and IntKind.u64 16717361816799281152 4294967295 = 0 := by
    have h := and_mod 16717361816799281152 (by omega)
    simpa using h
  obtain ⟨U, hU⟩ : ∃ U, U = hi * 576460752303423488 + lo / 32 := ⟨_, rfl⟩
  obtain ⟨T, hT⟩ : ∃ T, T = lo * 576460752303423488 % 18446744073709551616 := ⟨_, rfl⟩
  have hor : bits BinOp.or IntKind.u64 ((hi : Int) * 576460752303423488) ((lo : Int) / 32) = (U : Int) := by
    have h := or_plus hi (lo / 32) 59 (by omega) (by omega) (by omega)
    rw [hU]
    simpa using h
  have hw : IntKind.u64.wrap ((lo : Int) * 576460752303423488) = (T : Int) := by
    rw [IntKind.wrap_u64, hT]; omega
  have hand : bits BinOp.and IntKind.u64 (T : Int) 4294967295 = (T : Int) % 4294967296 := and_mod T (by omega)
  have hUb : U < 16717361816799281152 := by omega
  have hTb : T < 18446744073709551616 := by omega
  have hfin : Hid ((hi * 18446744073709551616 + lo) / 29 = (U * 4294967296 + T / 4294967296) / 3892314112) := by
    show _ = _
    omega
  clear hU hT
  obtain ⟨M1, hM1, bM1, dM1⟩ := wrapU ((U : Int) * 4294967296)
  obtain ⟨M2, hM2, bM2, dM2⟩ := wrapU ((M1 : Int) + (T : Int) / 4294967296)
  obtain ⟨M3, hM3, bM3, dM3⟩ := wrapU ((U : Int) / 3892314112 * 16717361816799281152)
  obtain ⟨V, hV, bV, dV⟩ := wrapU ((M2 : Int) - (M3 : Int))
  have eV : Hid ((V : Int) = ((U : Int) - (U : Int) / 3892314112 * 3892314112) * 4294967296 + (T : Int) / 4294967296) := by
    show _ = _
    omega
  have hVb : V < 16717361816799281152 := by have := eV.out; omega
  clear dM1 dM2 dM3 dV
  obtain ⟨N1, hN1, bN1, dN1⟩ := wrapU ((V : Int) * 4294967296)
  obtain ⟨N2, hN2, bN2, dN2⟩ := wrapU ((N1 : Int) + (T : Int) % 4294967296)
  obtain ⟨N3, hN3, bN3, dN3⟩ := wrapU ((V : Int) / 3892314112 * 16717361816799281152)
  obtain ⟨R, hR, bR, dR⟩ := wrapU ((N2 : Int) - (N3 : Int))
  clear dN1 dN2 dN3 dR
  have g1 : decide ((4294967296 : Int) ≤ (U : Int) / 3892314112) = false := by simp only [decide_eq_false_iff_not]; omega
  have g2 : decide ((4294967296 : Int) ≤ (V : Int) / 3892314112) = false := by simp only [decide_eq_false_iff_not]; omega
  go_enter Try.func80, Try.ntmps80
  go_wp2_with (go_at_call 81; refine (hz _).mono ?_; rintro e w' ⟨rfl, rfl⟩)
  go_loop [15, 16] (fun q r => q = .int .u64 ((U : Int) / 3892314112) ∧ r = .int .u64 ((U : Int) - (U : Int) / 3892314112 * 3892314112)) (fun _ _ => 0)
  case atStart => exact ⟨rfl, rfl⟩
  case round =>
    obtain ⟨rfl, rfl⟩ := hrel
    go_wp2
    go_loop [18, 16] (fun q r => q = .int .u64 ((V : Int) / 3892314112) ∧ r = .int .u64 ((V : Int) - (V : Int) / 3892314112 * 3892314112)) (fun _ _ => 0)
    case atStart => exact ⟨rfl, rfl⟩
    case round =>
      obtain ⟨rfl, rfl⟩ := hrel
      go_wp2
      go_ret2
      refine ⟨ret_tup ?_, 0, rfl⟩
      have h1 := hfin.out
      have h2 := eV.out
      omega

set_option maxRecDepth 20000 in
theorem bitsDiv_30 (hi lo : Nat) (hh1 : 0 < hi) (hh : hi < 30) (hl : lo < 18446744073709551616) (w : World) :
    Calls Try.prog 80 #[.int .u64 (hi : Nat), .int .u64 (lo : Nat), .int .u64 ((30 : Nat) : Int)] w fun e w' => (∃ r : Int, e = .returned (.tuple #[.int .u64 (((hi * 18446744073709551616 + lo) / 30 : Nat) : Int), .int .u64 r])) ∧ ∃ n, w' = w.drewN n := by
  have hz := fun w => bitsLead 30 5 (by omega) (by decide +kernel) (by omega) (by omega) w
  have hy0 : bits BinOp.and IntKind.u64 17293822569102704640 4294967295 = 0 := by
    have h := and_mod 17293822569102704640 (by omega)
    simpa using h
  obtain ⟨U, hU⟩ : ∃ U, U = hi * 576460752303423488 + lo / 32 := ⟨_, rfl⟩
  obtain ⟨T, hT⟩ : ∃ T, T = lo * 576460752303423488 % 18446744073709551616 := ⟨_, rfl⟩
  have hor : bits BinOp.or IntKind.u64 ((hi : Int) * 576460752303423488) ((lo : Int) / 32) = (U : Int) := by
    have h := or_plus hi (lo / 32) 59 (by omega) (by omega) (by omega)
    rw [hU]
    simpa using h
  have hw : IntKind.u64.wrap ((lo : Int) * 576460752303423488) = (T : Int) := by
    rw [IntKind.wrap_u64, hT]; omega
  have hand : bits BinOp.and IntKind.u64 (T : Int) 4294967295 = (T : Int) % 4294967296 := and_mod T (by omega)
  have hUb : U < 17293822569102704640 := by omega
  have hTb : T < 18446744073709551616 := by omega
  have hfin : Hid ((hi * 18446744073709551616 + lo) / 30 = (U * 4294967296 + T / 4294967296) / 4026531840) := by
    show _ = _
    omega
  clear hU hT
  obtain ⟨M1, hM1, bM1, dM1⟩ := wrapU ((U : Int) * 4294967296)
  obtain ⟨M2, hM2, bM2, dM2⟩ := wrapU ((M1 : Int) + (T : Int) / 4294967296)
  obtain ⟨M3, hM3, bM3, dM3⟩ := wrapU ((U : Int) / 4026531840 * 17293822569102704640)
  obtain ⟨V, hV, bV, dV⟩ := wrapU ((M2 : Int) - (M3 : Int))
  have eV : Hid ((V : Int) = ((U : Int) - (U : Int) / 4026531840 * 4026531840) * 4294967296 + (T : Int) / 4294967296) := by
    show _ = _
    omega
  have hVb : V < 17293822569102704640 := by have := eV.out; omega
  clear dM1 dM2 dM3 dV
  obtain ⟨N1, hN1, bN1, dN1⟩ := wrapU ((V : Int) * 4294967296)
  obtain ⟨N2, hN2, bN2, dN2⟩ := wrapU ((N1 : Int) + (T : Int) % 4294967296)
  obtain ⟨N3, hN3, bN3, dN3⟩ := wrapU ((V : Int) / 4026531840 * 17293822569102704640)
  obtain ⟨R, hR, bR, dR⟩ := wrapU ((N2 : Int) - (N3 : Int))
  clear dN1 dN2 dN3 dR
  have g1 : decide ((4294967296 : Int) ≤ (U : Int) / 4026531840) = false := by simp only [decide_eq_false_iff_not]; omega
  have g2 : decide ((4294967296 : Int) ≤ (V : Int) / 4026531840) = false := by simp only [decide_eq_false_iff_not]; omega
  go_enter Try.func80, Try.ntmps80
  go_wp2_with (go_at_call 81; refine (hz _).mono ?_; rintro e w' ⟨rfl, rfl⟩)
  go_loop [15, 16] (fun q r => q = .int .u64 ((U : Int) / 4026531840) ∧ r = .int .u64 ((U : Int) - (U : Int) / 4026531840 * 4026531840)) (fun _ _ => 0)
  case atStart => exact ⟨rfl, rfl⟩
  case round =>
    obtain ⟨rfl, rfl⟩ := hrel
    go_wp2
    go_loop [18, 16] (fun q r => q = .int .u64 ((V : Int) / 4026531840) ∧ r = .int .u64 ((V : Int) - (V : Int) / 4026531840 * 4026531840)) (fun _ _ => 0)
    case atStart => exact ⟨rfl, rfl⟩
    case round =>
      obtain ⟨rfl, rfl⟩ := hrel
      go_wp2
      go_ret2
      refine ⟨ret_tup ?_, 0, rfl⟩
      have h1 := hfin.out
      have h2 := eV.out
      omega

set_option maxRecDepth 20000 in
theorem bitsDiv_31 (hi lo : Nat) (hh1 : 0 < hi) (hh : hi < 31) (hl : lo < 18446744073709551616) (w : World) :
    Calls Try.prog 80 #[.int .u64 (hi : Nat), .int .u64 (lo : Nat), .int .u64 ((31 : Nat) : Int)] w fun e w' => (∃ r : Int, e = .returned (.tuple #[.int .u64 (((hi * 18446744073709551616 + lo) / 31 : Nat) : Int), .int .u64 r])) ∧ ∃ n, w' = w.drewN n := by
  have hz := fun w => bitsLead 31 5 (by omega) (by decide +kernel) (by omega) (by omega) w
  have hy0 : bits BinOp.and IntKind.u64 17870283321406128128 4294967295 = 0 := by
    have h := and_mod 17870283321406128128 (by omega)
    simpa using h
  obtain ⟨U, hU⟩ : ∃ U, U = hi * 576460752303423488 + lo / 32 := ⟨_, rfl⟩
  obtain ⟨T, hT⟩ : ∃ T, T = lo * 576460752303423488 % 18446744073709551616 := ⟨_, rfl⟩
  have hor : bits BinOp.or IntKind.u64 ((hi : Int) * 576460752303423488) ((lo : Int) / 32) = (U : Int) := by
    have h := or_plus hi (lo / 32) 59 (by omega) (by omega) (by omega)
    rw [hU]
    simpa using h
  have hw : IntKind.u64.wrap ((lo : Int) * 576460752303423488) = (T : Int) := by
    rw [IntKind.wrap_u64, hT]; omega
  have hand : bits BinOp.and IntKind.u64 (T : Int) 4294967295 = (T : Int) % 4294967296 := and_mod T (by omega)
  have hUb : U < 17870283321406128128 := by omega
  have hTb : T < 18446744073709551616 := by omega
  have hfin : Hid ((hi * 18446744073709551616 + lo) / 31 = (U * 4294967296 + T / 4294967296) / 4160749568) := by
    show _ = _
    omega
  clear hU hT
  obtain ⟨M1, hM1, bM1, dM1⟩ := wrapU ((U : Int) * 4294967296)
  obtain ⟨M2, hM2, bM2, dM2⟩ := wrapU ((M1 : Int) + (T : Int) / 4294967296)
  obtain ⟨M3, hM3, bM3, dM3⟩ := wrapU ((U : Int) / 4160749568 * 17870283321406128128)
  obtain ⟨V, hV, bV, dV⟩ := wrapU ((M2 : Int) - (M3 : Int))
  have eV : Hid ((V : Int) = ((U : Int) - (U : Int) / 4160749568 * 4160749568) * 4294967296 + (T : Int) / 4294967296) := by
    show _ = _
    omega
  have hVb : V < 17870283321406128128 := by have := eV.out; omega
  clear dM1 dM2 dM3 dV
  obtain ⟨N1, hN1, bN1, dN1⟩ := wrapU ((V : Int) * 4294967296)
  obtain ⟨N2, hN2, bN2, dN2⟩ := wrapU ((N1 : Int) + (T : Int) % 4294967296)
  obtain ⟨N3, hN3, bN3, dN3⟩ := wrapU ((V : Int) / 4160749568 * 17870283321406128128)
  obtain ⟨R, hR, bR, dR⟩ := wrapU ((N2 : Int) - (N3 : Int))
  clear dN1 dN2 dN3 dR
  have g1 : decide ((4294967296 : Int) ≤ (U : Int) / 4160749568) = false := by simp only [decide_eq_false_iff_not]; omega
  have g2 : decide ((4294967296 : Int) ≤ (V : Int) / 4160749568) = false := by simp only [decide_eq_false_iff_not]; omega
  go_enter Try.func80, Try.ntmps80
  go_wp2_with (go_at_call 81; refine (hz _).mono ?_; rintro e w' ⟨rfl, rfl⟩)
  go_loop [15, 16] (fun q r => q = .int .u64 ((U : Int) / 4160749568) ∧ r = .int .u64 ((U : Int) - (U : Int) / 4160749568 * 4160749568)) (fun _ _ => 0)
  case atStart => exact ⟨rfl, rfl⟩
  case round =>
    obtain ⟨rfl, rfl⟩ := hrel
    go_wp2
    go_loop [18, 16] (fun q r => q = .int .u64 ((V : Int) / 4160749568) ∧ r = .int .u64 ((V : Int) - (V : Int) / 4160749568 * 4160749568)) (fun _ _ => 0)
    case atStart => exact ⟨rfl, rfl⟩
    case round =>
      obtain ⟨rfl, rfl⟩ := hrel
      go_wp2
      go_ret2
      refine ⟨ret_tup ?_, 0, rfl⟩
      have h1 := hfin.out
      have h2 := eV.out
      omega

set_option maxRecDepth 20000 in
theorem bitsDiv_32 (hi lo : Nat) (hh1 : 0 < hi) (hh : hi < 32) (hl : lo < 18446744073709551616) (w : World) :
    Calls Try.prog 80 #[.int .u64 (hi : Nat), .int .u64 (lo : Nat), .int .u64 ((32 : Nat) : Int)] w fun e w' => (∃ r : Int, e = .returned (.tuple #[.int .u64 (((hi * 18446744073709551616 + lo) / 32 : Nat) : Int), .int .u64 r])) ∧ ∃ n, w' = w.drewN n := by
  have hz := fun w => bitsLead 32 6 (by omega) (by decide +kernel) (by omega) (by omega) w
  have hy0 : bits BinOp.and IntKind.u64 9223372036854775808 4294967295 = 0 := by
    have h := and_mod 9223372036854775808 (by omega)
    simpa using h
  obtain ⟨U, hU⟩ : ∃ U, U = hi * 288230376151711744 + lo / 64 := ⟨_, rfl⟩
  obtain ⟨T, hT⟩ : ∃ T, T = lo * 288230376151711744 % 18446744073709551616 := ⟨_, rfl⟩
  have hor : bits BinOp.or IntKind.u64 ((hi : Int) * 288230376151711744) ((lo : Int) / 64) = (U : Int) := by
    have h := or_plus hi (lo / 64) 58 (by omega) (by omega) (by omega)
    rw [hU]
    simpa using h
  have hw : IntKind.u64.wrap ((lo : Int) * 288230376151711744) = (T : Int) := by
    rw [IntKind.wrap_u64, hT]; omega
  have hand : bits BinOp.and IntKind.u64 (T : Int) 4294967295 = (T : Int) % 4294967296 := and_mod T (by omega)
  have hUb : U < 9223372036854775808 := by omega
  have hTb : T < 18446744073709551616 := by omega
  have hfin : Hid ((hi * 18446744073709551616 + lo) / 32 = (U * 4294967296 + T / 4294967296) / 2147483648) := by
    show _ = _
    omega
  clear hU hT
  obtain ⟨M1, hM1, bM1, dM1⟩ := wrapU ((U : Int) * 4294967296)
  obtain ⟨M2, hM2, bM2, dM2⟩ := wrapU ((M1 : Int) + (T : Int) / 4294967296)
  obtain ⟨M3, hM3, bM3, dM3⟩ := wrapU ((U : Int) / 2147483648 * 9223372036854775808)
  obtain ⟨V, hV, bV, dV⟩ := wrapU ((M2 : Int) - (M3 : Int))
  have eV : Hid ((V : Int) = ((U : Int) - (U : Int) / 2147483648 * 2147483648) * 4294967296 + (T : Int) / 4294967296) := by
    show _ = _
    omega
  have hVb : V < 9223372036854775808 := by have := eV.out; omega
  clear dM1 dM2 dM3 dV
  obtain ⟨N1, hN1, bN1, dN1⟩ := wrapU ((V : Int) * 4294967296)
  obtain ⟨N2, hN2, bN2, dN2⟩ := wrapU ((N1 : Int) + (T : Int) % 4294967296)
  obtain ⟨N3, hN3, bN3, dN3⟩ := wrapU ((V : Int) / 2147483648 * 9223372036854775808)
  obtain ⟨R, hR, bR, dR⟩ := wrapU ((N2 : Int) - (N3 : Int))
  clear dN1 dN2 dN3 dR
  have g1 : decide ((4294967296 : Int) ≤ (U : Int) / 2147483648) = false := by simp only [decide_eq_false_iff_not]; omega
  have g2 : decide ((4294967296 : Int) ≤ (V : Int) / 2147483648) = false := by simp only [decide_eq_false_iff_not]; omega
  go_enter Try.func80, Try.ntmps80
  go_wp2_with (go_at_call 81; refine (hz _).mono ?_; rintro e w' ⟨rfl, rfl⟩)
  go_loop [15, 16] (fun q r => q = .int .u64 ((U : Int) / 2147483648) ∧ r = .int .u64 ((U : Int) - (U : Int) / 2147483648 * 2147483648)) (fun _ _ => 0)
  case atStart => exact ⟨rfl, rfl⟩
  case round =>
    obtain ⟨rfl, rfl⟩ := hrel
    go_wp2
    go_loop [18, 16] (fun q r => q = .int .u64 ((V : Int) / 2147483648) ∧ r = .int .u64 ((V : Int) - (V : Int) / 2147483648 * 2147483648)) (fun _ _ => 0)
    case atStart => exact ⟨rfl, rfl⟩
    case round =>
      obtain ⟨rfl, rfl⟩ := hrel
      go_wp2
      go_ret2
      refine ⟨ret_tup ?_, 0, rfl⟩
      have h1 := hfin.out
      have h2 := eV.out
      omega

set_option maxRecDepth 20000 in
theorem bitsDiv_33 (hi lo : Nat) (hh1 : 0 < hi) (hh : hi < 33) (hl : lo < 18446744073709551616) (w : World) :
    Calls Try.prog 80 #[.int .u64 (hi : Nat), .int .u64 (lo : Nat), .int .u64 ((33 : Nat) : Int)] w fun e w' => (∃ r : Int, e = .returned (.tuple #[.int .u64 (((hi * 18446744073709551616 + lo) / 33 : Nat) : Int), .int .u64 r])) ∧ ∃ n, w' = w.drewN n := by
  have hz := fun w => bitsLead 33 6 (by omega) (by decide +kernel) (by omega) (by omega) w
  have hy0 : bits BinOp.and IntKind.u64 9511602413006487552 4294967295 = 0 := by
    have h := and_mod 9511602413006487552 (by omega)
    simpa using h
  obtain ⟨U, hU⟩ : ∃ U, U = hi * 288230376151711744 + lo / 64 := ⟨_, rfl⟩
  obtain ⟨T, hT⟩ : ∃ T, T = lo * 288230376151711744 % 18446744073709551616 := ⟨_, rfl⟩
  have hor : bits BinOp.or IntKind.u64 ((hi : Int) * 288230376151711744) ((lo : Int) / 64) = (U : Int) := by
    have h := or_plus hi (lo / 64) 58 (by omega) (by omega) (by omega)
    rw [hU]
    simpa using h
  have hw : IntKind.u64.wrap ((lo : Int) * 288230376151711744) = (T : Int) := by
    rw [IntKind.wrap_u64, hT]; omega
  have hand : bits BinOp.and IntKind.u64 (T : Int) 4294967295 = (T : Int) % 4294967296 := and_mod T (by omega)
  have hUb : U < 9511602413006487552 := by omega
  have hTb : T < 18446744073709551616 := by omega
  have hfin : Hid ((hi * 18446744073709551616 + lo) / 33 = (U * 4294967296 + T / 4294967296) / 2214592512) := by
    show _ = _
    omega
  clear hU hT
  obtain ⟨M1, hM1, bM1, dM1⟩ := wrapU ((U : Int) * 4294967296)
  obtain ⟨M2, hM2, bM2, dM2⟩ := wrapU ((M1 : Int) + (T : Int) / 4294967296)
  obtain ⟨M3, hM3, bM3, dM3⟩ := wrapU ((U : Int) / 2214592512 * 9511602413006487552)
  obtain ⟨V, hV, bV, dV⟩ := wrapU ((M2 : Int) - (M3 : Int))
  have eV : Hid ((V : Int) = ((U : Int) - (U : Int) / 2214592512 * 2214592512) * 4294967296 + (T : Int) / 4294967296) := by
    show _ = _
    omega
  have hVb : V < 9511602413006487552 := by have := eV.out; omega
  clear dM1 dM2 dM3 dV
  obtain ⟨N1, hN1, bN1, dN1⟩ := wrapU ((V : Int) * 4294967296)
  obtain ⟨N2, hN2, bN2, dN2⟩ := wrapU ((N1 : Int) + (T : Int) % 4294967296)
  obtain ⟨N3, hN3, bN3, dN3⟩ := wrapU ((V : Int) / 2214592512 * 9511602413006487552)
  obtain ⟨R, hR, bR, dR⟩ := wrapU ((N2 : Int) - (N3 : Int))
  clear dN1 dN2 dN3 dR
  have g1 : decide ((4294967296 : Int) ≤ (U : Int) / 2214592512) = false := by simp only [decide_eq_false_iff_not]; omega
  have g2 : decide ((4294967296 : Int) ≤ (V : Int) / 2214592512) = false := by simp only [decide_eq_false_iff_not]; omega
  go_enter Try.func80, Try.ntmps80
  go_wp2_with (go_at_call 81; refine (hz _).mono ?_; rintro e w' ⟨rfl, rfl⟩)
  go_loop [15, 16] (fun q r => q = .int .u64 ((U : Int) / 2214592512) ∧ r = .int .u64 ((U : Int) - (U : Int) / 2214592512 * 2214592512)) (fun _ _ => 0)
  case atStart => exact ⟨rfl, rfl⟩
  case round =>
    obtain ⟨rfl, rfl⟩ := hrel
    go_wp2
    go_loop [18, 16] (fun q r => q = .int .u64 ((V : Int) / 2214592512) ∧ r = .int .u64 ((V : Int) - (V : Int) / 2214592512 * 2214592512)) (fun _ _ => 0)
    case atStart => exact ⟨rfl, rfl⟩
    case round =>
      obtain ⟨rfl, rfl⟩ := hrel
      go_wp2
      go_ret2
      refine ⟨ret_tup ?_, 0, rfl⟩
      have h1 := hfin.out
      have h2 := eV.out
      omega

end Go.Proofs.Ythncgocjegalhaa.Nm
