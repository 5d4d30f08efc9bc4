
/- DigitCounts: the numbers, and what i. tells of a list and of a scalar. -/

import Derived.Test.YtjnlkdeiccllgaaZP

namespace Go.Proofs.Ytjnlkdeiccllgaa

open Go.RowKit

set_option linter.unusedVariables false

theorem absL_pos {zs : List Int} (h : ∀ k, k < zs.length → 0 ≤ nth zs k) : absL zs = zs :=
  ext_nth (absL_len zs) (fun k hk => by rw [absL_len] at hk; rw [absL_nth hk]; have := h k hk; omega)
theorem rgL_app (a b : Nat) : rgL (a + b) = rgL a ++ (List.range b).map (fun i : Nat => ((a : Int) + (i : Int))) := by
  unfold rgL
  rw [List.range_add, List.map_append, List.map_map]
  congr 1
  try (apply List.map_congr_left; intro i hi; simp)
theorem blw_rgL (m n : Nat) : blw (n : Int) (rgL m) = rgL (m * n) := by
  induction m with
  | zero => rw [Nat.zero_mul]; rfl
  | succ m ih =>
    have e : rgL (m + 1) = rgL m ++ [(m : Int)] := by unfold rgL; rw [List.range_succ, List.map_append]; rfl
    rw [e, blw_snoc, ih, Nat.succ_mul, rgL_app]
    congr 1
theorem cnt_rg {zs : List Int} (h : ∀ k, k < zs.length → 0 ≤ nth zs k) : ∀ k, k ≤ zs.length → cnt zs k = rgL (cntN zs k)
  | 0, _ => rfl
  | k + 1, hk => by
    rw [cnt_succ (by omega), cntN_succ (by omega), cnt_rg h k (by omega)]
    have := h k (by omega)
    obtain ⟨m, hm⟩ : ∃ m : Nat, nth zs k = m := ⟨(nth zs k).toNat, by omega⟩
    rw [hm, Int.natAbs_natCast]
    exact blw_rgL _ _
theorem cntN_pr {zs : List Int} (h : ∀ k, k < zs.length → 0 ≤ nth zs k) : ∀ k, k ≤ zs.length → ((cntN zs k : Nat) : Int) = pr (zs.take k)
  | 0, _ => rfl
  | k + 1, hk => by
    rw [cntN_succ (by omega), take_nth (by omega), pr_snoc, Int.natCast_mul, cntN_pr h k (by omega)]
    have := h k (by omega)
    rw [show (((nth zs k).natAbs : Nat) : Int) = nth zs k by omega]
theorem mayF_pos {zs : List Int} (h : ∀ k, k < zs.length → 0 ≤ nth zs k) : mayF zs = 0 ∨ mayF zs = 17 := by
  have := abs_cases zs
  rwa [absL_pos h] at this
theorem rgL_nth {n k : Nat} (h : k < n) : nth (rgL n) k = (k : Int) := by unfold rgL nth; simp [h]
theorem blw_one (z : Int) : blw z [0] = (List.range z.natAbs).map (blI z 0) := by unfold blw; simp
theorem blw_one_nth {z : Int} {k : Nat} (h : k < z.natAbs) : nth (blw z [0]) k = if z < 0 then -z - 1 - (k : Int) else (k : Int) := by
  rw [blw_one]
  unfold nth
  simp [h]
  unfold blI
  split <;> omega
theorem mayF_sc {z : Int} : mayF (absL [z]) = if z.natAbs ≤ 4096 then 0 else 17 := by
  have e : absL [z] = [((z.natAbs : Nat) : Int)] := rfl
  rw [e]
  split
  · exact mayF_one (by assumption)
  · refine mayF_great (m := 1) (fun k hk => ?_) (by simp) ?_
    · simp at hk; subst hk; show (0 : Int) ≤ ((z.natAbs : Nat) : Int); omega
    · simp [pz]; split <;> omega
/-- i. of a list of lengths. -/
theorem iota_list (so ao : Option Addr) (sc an ac : Nat) (zs : List Int) (w : World) (hs : Rd w so 1 [(an : Int)]) (ha : Rd w ao an zs) (an4 : an ≤ 4096) (hp : ∀ k, k < an → 0 ≤ nth zs k) (hF : mayF zs = 0) :
    Calls Try.prog 8 #[.int .i64 34, .agg #[.slice so 1 sc, .slice ao an ac]] w fun e w' => AnsQ w (fun S A => S = zs ∧ A = rgL (cntN zs an)) 0 e w' := by
  have hl := ha.len
  have hp' : ∀ k, k < zs.length → 0 ≤ nth zs k := fun k hk => hp k (by omega)
  refine monadZ_34 so ao 1 sc an ac [(an : Int)] zs _ 0 w hs ha (mayA_list an4 hl) (by omega) (fun V k => (count_ok so ao 1 sc an ac zs V (ha.below k (Nat.le_refl _)) an4 (fun k hk => by have := hp k hk; omega) (by rw [absL_pos hp']; exact hF)).mono fun e w' h => h.imp (fun S A ⟨h1, h2⟩ => ⟨by rw [h1, absL_pos hp'], by rw [h2, cnt_rg hp' an (by omega)]⟩))
theorem iota_list_bad (so ao : Option Addr) (sc an ac : Nat) (zs : List Int) (w : World) (hs : Rd w so 1 [(an : Int)]) (ha : Rd w ao an zs) (an4 : an ≤ 4096) (hp : ∀ k, k < an → 0 ≤ nth zs k) (hF : mayF zs ≠ 0) :
    Calls Try.prog 8 #[.int .i64 34, .agg #[.slice so 1 sc, .slice ao an ac]] w fun e w' => AnsQ w (fun S A => S = [] ∧ A = []) 17 e w' := by
  have hl := ha.len
  have hp' : ∀ k, k < zs.length → 0 ≤ nth zs k := fun k hk => hp k (by omega)
  exact monadZ_34 so ao 1 sc an ac [(an : Int)] zs _ 17 w hs ha (mayA_list an4 hl) (by omega) (fun V k => count_bad so ao 1 sc an ac zs V (ha.below k (Nat.le_refl _)) an4 (fun k hk => by have := hp k hk; omega) (by rw [absL_pos hp']; exact hF))
theorem mayA_sc' (z : Int) : mayA [] [z] = 0 := by simp [mayA, mayF, pr, pz]
theorem one_ne {z : Int} (h : z ≠ -9223372036854775808) : ∀ k, k < 1 → nth [z] k ≠ -9223372036854775808 := by
  intro k hk
  obtain rfl : k = 0 := by omega
  exact h
theorem iota_sc (ao : Option Addr) (ac : Nat) (z : Int) (w : World) (ha : Rd w ao 1 [z]) (hz : z.natAbs ≤ 4096) :
    Calls Try.prog 8 #[.int .i64 34, .agg #[.slice none 0 0, .slice ao 1 ac]] w fun e w' => AnsQ w (fun S A => S = [((z.natAbs : Nat) : Int)] ∧ A = blw z [0]) 0 e w' :=
  monadZ_34 none ao 0 0 1 ac [] [z] _ 0 w (Rd.nil w) ha (mayA_sc' z) (by omega) (fun V k => (count_ok none ao 0 0 1 ac [z] V (ha.below k (Nat.le_refl _)) (by omega) (one_ne (by omega)) (by rw [mayF_sc, if_pos hz])).mono fun e w' h => h.imp (fun S A ⟨h1, h2⟩ => ⟨h1, h2⟩))
theorem iota_sc_bad (ao : Option Addr) (ac : Nat) (z : Int) (w : World) (ha : Rd w ao 1 [z]) (hz : ¬ z.natAbs ≤ 4096) :
    Calls Try.prog 8 #[.int .i64 34, .agg #[.slice none 0 0, .slice ao 1 ac]] w fun e w' => AnsQ w (fun S A => S = [] ∧ A = []) 17 e w' := by
  refine monadZ_34 none ao 0 0 1 ac [] [z] _ 17 w (Rd.nil w) ha (mayA_sc' z) (by omega) (fun V k => ?_)
  by_cases e : z = -9223372036854775808
  · exact count_min none ao 0 0 1 ac [z] V (ha.below k (Nat.le_refl _)) (by omega) ⟨0, by omega, e⟩
  · exact count_bad none ao 0 0 1 ac [z] V (ha.below k (Nat.le_refl _)) (by omega) (one_ne e) (by rw [mayF_sc, if_neg hz]; decide)
end Go.Proofs.Ytjnlkdeiccllgaa
