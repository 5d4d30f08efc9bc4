
/- A place of the frame, and the places of either frame that it begins with: the numbers alone. -/

import Derived.Test.YtjllmfahmlfljaaG1
import Derived.Test.YtjllmfahmlfljaaD4


namespace Go.Proofs.Ytjllmfahmlfljaa

open Go.RowKit

set_option linter.unusedVariables false

theorem plc_pre {F L ys : List Int} (h : L.take F.length = F) : ∀ m, m ≤ F.length → plc F (ys.take F.length) m = plc L ys m
  | 0, _ => rfl
  | m + 1, hm => by
    simp only [plc]
    have e : nth F m = nth L m := by
      conv => lhs; rw [← h]
      exact nth_take (by omega)
    rw [plc_pre h m (by omega), e, nth_take (by omega)]
theorem agr_may {a b : List Int} (h : agrB a b = true) (ha : mayF a = 0) (hb : mayF b = 0) : mayF (agrL a b) = 0 := by
  unfold agrL
  rw [if_pos h]
  split
  · exact ha
  · exact hb
theorem pp_place {L F : List Int} {n N k : Nat} (pre : L.take F.length = F) (mf : mayF F = 0) (ml : mayF L = 0) (hn : (n : Int) = pr L) (hN : (N : Int) = pr F) (hk : k < n) :
    0 < N ∧ 0 < n / N ∧ placeE F ((digs L k).take F.length) = 0 ∧ placeN F ((digs L k).take F.length) = ((k / (n / N) : Nat) : Int) := by
  have hlt : (k : Int) < pr L := by omega
  have hp := allPos_of ml (Int.natCast_nonneg k) hlt
  have le : F.length ≤ L.length := by
    have := congrArg List.length pre
    rw [List.length_take] at this
    omega
  have hd := drop_pos' hp F.length le
  have hpr : pr L = pr F * pr (L.drop F.length) := by
    conv => lhs; rw [← List.take_append_drop F.length L, pr_app, pre]
  obtain ⟨D, hD⟩ : ∃ D : Nat, (D : Int) = pr (L.drop F.length) := ⟨(pr (L.drop F.length)).toNat, by omega⟩
  rw [← hD] at hd hpr
  rw [← hn, ← hN] at hpr
  have e : n = N * D := by exact_mod_cast hpr
  have hN0 : 0 < N := by
    rcases Nat.eq_zero_or_pos N with z | z
    · rw [z, Nat.zero_mul] at e; omega
    · exact z
  have eD : n / N = D := by rw [e]; exact Nat.mul_div_cancel_left D hN0
  have hl : ((digs L k).take F.length).length = F.length := by rw [List.length_take, digs_len]; omega
  have hi : idx F ((digs L k).take F.length) F.length := fun j hj => by
    have e1 : nth F j = nth L j := by
      conv => lhs; rw [← pre]
      exact nth_take hj
    rw [nth_take hj, e1]
    exact idx_digs hp j (by omega)
  obtain ⟨x1, x2⟩ := place_in mf hl hi
  refine ⟨hN0, by omega, x1, ?_⟩
  rw [x2, plc_pre pre _ (Nat.le_refl _), plc_digs hp (Int.natCast_nonneg k) hlt _ le, ← hD, eD]
  exact (Int.natCast_ediv _ _).symm
theorem at_good {L : List Int} {n k : Nat} (ml : mayF L = 0) (hn : (n : Int) = pr L) (hk : k < n) : atE L k = 0 ∧ atL L k = digs L k := by
  have e : atE L k = 0 := by unfold atE; rw [if_neg (by rw [ml]; simp), if_neg (by omega)]
  exact ⟨e, by unfold atL; rw [if_pos e]⟩
/-- Whether One refuses. -/
def oneE (s a : List Int) : Int := if mayA s a = 0 then 0 else 1
theorem one_weak (so ao : Option Addr) (sn sc an ac : Nat) (sh at' : List Int) (r : Int) (w : World) (h : Rd w so sn sh) (hs : Sl so sn sc) (g : Rd w ao an at') (gs : Sl ao an ac) (r1 : -9223372036854775808 ≤ r) (r2 : r ≤ 9223372036854775807) :
    Calls Try.prog 10 #[.agg #[.slice so sn sc, .slice ao an ac], .int .i64 r] w fun e w' => ∃ o0 n0 c0 o1 n1 c1 o2 n2 c2 o3 n3 c3, e = .returned (.tuple #[.agg #[.slice o0 n0 c0, .slice o1 n1 c1, .slice o2 n2 c2, .slice o3 n3 c3], .int .i64 (oneE sh at')]) ∧ Below w.heap.size w w' := by
  unfold oneE
  by_cases c : mayA sh at' = 0
  · rw [if_pos c]
    exact (one_ok so ao sn sc an ac sh at' r w h hs g gs c r1 r2).mono fun e w' ⟨fo, fn, fc, gg, o1, n1, c1, o2, n2, c2, x1, x2, x3, x4, x5, x6, x7⟩ => ⟨_, _, _, _, _, _, _, _, _, _, _, _, x1, x7⟩
  · rw [if_neg c]
    exact (one_may so ao sn sc an ac sh at' r w h g c).mono fun e w' ⟨x1, x2⟩ => ⟨_, _, _, _, _, _, _, _, _, _, _, _, x1, x2⟩
end Go.Proofs.Ytjllmfahmlfljaa
