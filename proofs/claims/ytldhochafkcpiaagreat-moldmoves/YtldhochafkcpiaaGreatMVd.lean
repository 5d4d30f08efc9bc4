
/- MoldMoves: the law. -/

import Derived.Test.YtldhochafkcpiaaGreatMVc

namespace Go.Proofs.YtldhochafkcpiaaGreat

open Go.RowKit

set_option linter.unusedVariables false

theorem may_list {n : Nat} {xs : List Int} (hl : xs.length = n) (h : n ≤ 4096) : mayA [(n : Int)] xs = 0 := by
  refine mayA_ok (mayF_ok (fun k hk => ?_) (by simp) ?_) ?_
  · obtain rfl : k = 0 := by simpa using hk
    show (0 : Int) ≤ n; omega
  · show (if (n : Int) = 0 then (1 : Int) else 1 * (n : Int)) ≤ 4096
    split <;> omega
  · show (xs.length : Int) = 1 * (n : Int)
    omega
theorem may_great {n : Nat} {xs : List Int} (h : ¬ n ≤ 4096) : mayA [(n : Int)] xs ≠ 0 := by
  have e : mayF [(n : Int)] = 17 := mayF_great (m := 1) (fun k hk => by
    obtain rfl : k = 0 := by simpa using hk
    show (0 : Int) ≤ n; omega) (by simp) (by
    show (4096 : Int) < (if (n : Int) = 0 then (1 : Int) else 1 * (n : Int))
    rw [if_neg (by omega)]; omega)
  rw [mayA_sh (by rw [e]; decide), e]; decide
/-- Moved back by the way back, both are as they were. -/
theorem back_is {n : Nat} {pi : List Nat} {sy ay B : List Int} (my : mayA sy ay = 0) (hsl : sy.length = n) (hp : pi.Perm (List.range n)) (bk : Bck n pi B) :
    mayA (pi.map (nth sy)) (gth ay (pi.map (nax (axsOf sy)))) = 0 ∧ Gd n B ∧ (prm n B).map (nth (pi.map (nth sy))) = sy ∧ gth (gth ay (pi.map (nax (axsOf sy)))) ((prm n B).map (nax (axsOf (pi.map (nth sy))))) = ay := by
  subst hsl
  obtain ⟨m1, m2⟩ := mayA_zero my
  obtain ⟨z1, z2, z3⟩ := mayF_zero m1
  have pm : ∀ i, i ∈ pi → i < sy.length := fun i hi => List.mem_range.1 (hp.mem_iff.1 hi)
  obtain ⟨b1, b2⟩ := bk.perm hp
  rw [b2]
  refine ⟨mayA_ok (mayF_pi m1 hp) ?_, bk.gd hp, lens_back z1 hp b1 (bk.back hp), gth_back z1 m2 hp b1 (bk.back hp)⟩
  unfold gth
  rw [List.length_map, pls_len, lens_axes z1 pm]
theorem moves_any (xo so ao : Option Addr) (xn xc sn sc an ac : Nat) (xs sy ay : List Int) (w : World) (hx : Rd w xo xn xs) (sx : Sl xo xn xc) (hs : Rd w so sn sy) (ss : Sl so sn sc) (ha : Rd w ao an ay) (sa : Sl ao an ac) :
    Calls Tryz.prog 3 #[.slice xo xn xc, .agg #[.slice so sn sc, .slice ao an ac]] w fun e w' => e = .returned (.bool true) ∧ Below w.heap.size w w' := by
  have hl := hx.len
  have HS := fun V (k : Below w.heap.size w V) => hs.below k (Nat.le_refl _)
  have HA := fun V (k : Below w.heap.size w V) => ha.below k (Nat.le_refl _)
  by_cases my : mayA sy ay = 0
  · obtain ⟨E, S, A, hE, cD⟩ := dyad33_all so sn xs sy ay my hs.len
    have cM := fun V (k : Below w.heap.size w V) => may6_yes so ao sn sc an ac sy ay V (HS V k) (HA V k) my
    by_cases h4 : xn ≤ 4096
    · have mx := may_list hl h4
      rcases hE with ⟨G, rfl, hS, hA⟩ | ⟨G, hE, rfl, rfl⟩
      · have hp := G.perm
        refine moves_ok xo so ao xn xc sn sc an ac xs sy ay w hx sx hs ss ha sa S A G (by rw [← hs.len]; exact (mayF_zero (mayA_zero my).1).2.1) (by rw [← hl]; exact G.le) (fun V o1 o2 c2 k h1 h2 => cD (some o1) o2 ao 1 1 xn c2 sc an ac [(xn : Int)] V h1 h2 (HS V k) (HA V k) mx (Nat.le_refl _)) cM hS ?_
        intro Bl BK V o1 o2 c2 oA nA cA pA mA dA h1 h2 h3 h4
        subst hS
        subst hA
        obtain ⟨mS, gB, e1, e2⟩ := back_is my hs.len hp BK
        have hn : nA = sn := by
          rw [← h3.len, List.length_map, hp.length_eq, List.length_range]
        subst hn
        obtain ⟨E2, S2, A2, hE2, cD2⟩ := dyad33_all oA nA Bl _ _ mS h3.len
        rcases hE2 with ⟨G2, rfl, rfl, rfl⟩ | ⟨nG, _⟩
        · have c := cD2 (some o1) o2 pA 1 1 nA c2 cA mA dA [(nA : Int)] V h1 h2 h3 h4 (may_list BK.len (by have := (mayF_zero (mayA_zero my).1).2.1; rw [hs.len] at this; omega)) (Nat.le_refl _)
          rw [e1, e2] at c
          exact c
        · exact absurd gB nG
      · exact moves_err xo so ao xn xc sn sc an ac xs sy ay w hx sx hs ss ha sa E hE true false (fun V o1 o2 c2 k h1 h2 => cD (some o1) o2 ao 1 1 xn c2 sc an ac [(xn : Int)] V h1 h2 (HS V k) (HA V k) mx (Nat.le_refl _)) (by simp; omega) cM
    · exact moves_err xo so ao xn xc sn sc an ac xs sy ay w hx sx hs ss ha sa 1 (by decide) true true (fun V o1 o2 c2 k h1 h2 => dyad33_bad (some o1) o2 so ao 1 1 xn c2 sn sc an ac [(xn : Int)] xs sy ay V h1 h2 (HS V k) (HA V k) (.inl (may_great h4))) (by simp; omega) cM
  · exact moves_err xo so ao xn xc sn sc an ac xs sy ay w hx sx hs ss ha sa 1 (by decide) false (decide (4096 < xn)) (fun V o1 o2 c2 k h1 h2 => dyad33_bad (some o1) o2 so ao 1 1 xn c2 sn sc an ac [(xn : Int)] xs sy ay V h1 h2 (HS V k) (HA V k) (.inr my)) rfl (fun V k => may6_no so ao sn sc an ac sy ay V (HS V k) (HA V k) my)
end Go.Proofs.YtldhochafkcpiaaGreat
