
/- DigitCopies: the numbers. -/

import Derived.Test.YtjnlkdeiccllgaaZS
import Derived.Deep.DeepCutAuto


namespace Go.Proofs.Ytjnlkdeiccllgaa

open Go.RowKit

set_option linter.unusedVariables false

set_option maxHeartbeats 1000000 in
theorem may8_yes (so ao : Option Addr) (sn sc an ac : Nat) (sh at' : List Int) (w : World) (h : Rd w so sn sh) (g : Rd w ao an at') (m : mayA sh at' = 0) :
    Calls Try.prog 14 #[.agg #[.slice so sn sc, .slice ao an ac]] w fun e w' => e = .returned (.bool true) ∧ Below w.heap.size w w' := by
  have k0 := box_below w (.cells #[.slice so sn sc, .slice ao an ac] 26)
  obtain ⟨x0, x1, _, _⟩ := box2 (allocNew w (.cells #[.slice so sn sc, .slice ao an ac] 26))
  obtain ⟨m1, m2⟩ := mayA_0 m
  have cZ := size_any so sn sc sh _ (h.below k0 (Nat.le_refl _))
  rw [sizeF_ok m1, m1, ← m2, g.len] at cZ
  have t : ((an : Int) == (an : Int)) = true := by simp
  clear m m1 m2
  go_enter Try.func14, Try.ntmps14
  go_wp2_with (go_at_call 10; (with_reducible refine cZ.mono ?_); rintro e w1 ⟨rfl, hw⟩; rw [hw]; clear hw w1)
  go_ret
  exact ⟨rfl, k0⟩
set_option maxHeartbeats 1000000 in
theorem may8_no (so ao : Option Addr) (sn sc an ac : Nat) (sh at' : List Int) (w : World) (h : Rd w so sn sh) (g : Rd w ao an at') (m : mayA sh at' ≠ 0) :
    Calls Try.prog 14 #[.agg #[.slice so sn sc, .slice ao an ac]] w fun e w' => e = .returned (.bool false) ∧ Below w.heap.size w w' := by
  have k0 := box_below w (.cells #[.slice so sn sc, .slice ao an ac] 26)
  obtain ⟨x0, x1, _, _⟩ := box2 (allocNew w (.cells #[.slice so sn sc, .slice ao an ac] 26))
  have cZ := size_any so sn sc sh _ (h.below k0 (Nat.le_refl _))
  have gl := g.len
  by_cases m1 : mayF sh = 0
  · have m2 : (an : Int) ≠ pr sh := fun e => m (by unfold mayA; rw [if_neg (by simp [m1]), if_neg (by rw [gl]; simpa using e)])
    rw [sizeF_ok m1, m1] at cZ
    generalize pr sh = P at *
    have t : (P == (an : Int)) = false := by simp; omega
    clear m m1 m2 gl
    go_enter Try.func14, Try.ntmps14
    go_wp2_with (go_at_call 10; (with_reducible refine cZ.mono ?_); rintro e w1 ⟨rfl, hw⟩; rw [hw]; clear hw w1)
    go_ret
    exact ⟨rfl, k0⟩
  · generalize mayF sh = M at *
    have t : (M == 0) = false := by simpa using m1
    clear m m1 gl
    go_enter Try.func14, Try.ntmps14
    go_wp2_with (go_at_call 10; (with_reducible refine cZ.mono ?_); rintro e w1 ⟨rfl, hw⟩; rw [hw]; clear hw w1)
    go_ret
    exact ⟨rfl, k0⟩

theorem bq_set {V : World} {B gb : Nat} {o1 : Option Addr} {n1 c1 : Nat} {o2 : Option Addr} {n2 c2 : Nat} {S A : List Int} (h1 : Ft 3 V B o1 n1 c1 S) (h2 : Ft 2 V B o2 n2 c2 A) (hb : gb < B) (hz : V.heap[gb]? = some (.cells #[.slice none 0 0, .slice none 0 0] 26 (0, 0))) : Bq ((V.setCell ⟨gb, 0, none⟩ (.slice o1 n1 c1)).setCell ⟨gb, 1, none⟩ (.slice o2 n2 c2)) gb o1 n1 c1 o2 n2 c2 S A := by
  have a1 := heap_setCell_same V gb 0 _ 26 (.slice o1 n1 c1) hz
  have a2 := heap_setCell_same _ gb 1 _ 26 (.slice o2 n2 c2) a1
  exact ⟨by simpa using a2, (ft_setQ h1 hb _ _).rd, (ft_setQ h2 hb _ _).rd⟩
theorem mayA_sc (z : Int) : mayA [] [z] = 0 := by simp [mayA, mayF, pr, pz]
theorem rpd_ones {xs ns : List Int} {wd n : Nat} (h : n * wd = xs.length) (hn : ∀ k, k < n → nth ns k = 1) : ∀ k, k ≤ n → rpd xs wd ns k = xs.take (k * wd)
  | 0, _ => by simp [rpd]
  | k + 1, hk => by
    rw [rpd_succ, rpd_ones h hn k (by omega), hn k (by omega), show (1 : Int).toNat = 1 from rfl]
    rw [show repL (itA xs wd k) 1 = itA xs wd k by simp [repL]]
    unfold itA
    rw [Nat.succ_mul, List.take_add]
theorem sm_ones {ns : List Int} {n : Nat} (hl : ns.length = n) (hn : ∀ k, k < n → nth ns k = 1) : ∀ k, k ≤ n → sm (ns.take k) = (k : Int)
  | 0, _ => rfl
  | k + 1, hk => by rw [take_nth (by omega), sm_snoc, sm_ones hl hn k (by omega), hn k (by omega)]; omega
/-- An array that is no scalar: its first length, and the rest. -/
theorem head_tail {sy : List Int} (h : sy.length ≠ 0) : sy = tal sy :: sy.drop 1 := by
  cases sy with
  | nil => simp at h
  | cons z l => rfl
theorem cp_one {sy ay : List Int} (my : mayA sy ay = 0) (h : sy.length ≠ 0) : cpE [] [1] sy = 0 ∧ cpS [] [1] sy = sy ∧ cpA [] [1] sy ay = ay := by
  obtain ⟨f, l⟩ := mayA_0 my
  have tb := tal_bd f
  have ht := head_tail h
  have eT : cpT [] [1] sy = tal sy := by unfold cpT cpR; simp [sm]
  have e0 : cpE [] [1] sy = 0 := by
    unfold cpE
    rw [if_neg (by simp), if_neg (by simp), eT, if_neg (by omega), ← ht]; exact f
  refine ⟨e0, by unfold cpS; rw [if_pos e0, eT, ← ht], ?_⟩
  have wb := wdA_eq f
  have ep := tal_pr h
  rw [← l, ← wb.1] at ep
  obtain ⟨tl, htl⟩ : ∃ tl : Nat, tal sy = (tl : Int) := ⟨(tal sy).toNat, by omega⟩
  have ecut : tl * wdA sy = ay.length := by rw [htl, ← Int.natCast_mul] at ep; exact (Int.ofNat_inj.1 ep).symm
  have eN : takL [] [1] (tal sy).toNat = List.replicate tl 1 := by unfold takL; rw [if_pos (by simp), repL_one, htl, Int.toNat_natCast]
  have eY : takL sy ay ([1] : List Int).length = ay := by unfold takL; rw [if_neg h]
  unfold cpA
  rw [if_pos e0, eN, eY, List.length_replicate, rpd_ones ecut (fun k hk => by unfold nth; simp [hk]) tl (Nat.le_refl _), ecut, List.take_length]
theorem cp_ones {sy ay ns : List Int} {tl : Nat} (my : mayA sy ay = 0) (h : sy.length ≠ 0) (htl : tal sy = (tl : Int)) (hl : ns.length = tl) (hn : ∀ k, k < tl → nth ns k = 1) : cpE [(tl : Int)] ns sy = 0 ∧ cpS [(tl : Int)] ns sy = sy ∧ cpA [(tl : Int)] ns sy ay = ay := by
  obtain ⟨f, l⟩ := mayA_0 my
  have tb := tal_bd f
  have ht := head_tail h
  have es : sm ns = (tl : Int) := by have := sm_ones hl hn tl (Nat.le_refl _); rwa [← hl, List.take_length, hl] at this
  have eT : cpT [(tl : Int)] ns sy = tal sy := by unfold cpT cpR; rw [if_neg (by simp), es, htl]; omega
  have e0 : cpE [(tl : Int)] ns sy = 0 := by
    unfold cpE
    rw [if_neg (by rw [hl]; omega), if_neg, eT, if_neg (by omega), ← ht]
    · exact f
    · rw [any_yes]
      rintro ⟨k, k1, k2⟩
      rw [hn k (by omega)] at k2
      omega
  refine ⟨e0, by unfold cpS; rw [if_pos e0, eT, ← ht], ?_⟩
  have wb := wdA_eq f
  have ep := tal_pr h
  rw [← l, ← wb.1, htl, ← Int.natCast_mul] at ep
  have ecut : tl * wdA sy = ay.length := (Int.ofNat_inj.1 ep).symm
  have eN : ∀ m, takL [(tl : Int)] ns m = ns := fun m => by unfold takL; rw [if_neg (by simp)]
  have eY : takL sy ay ns.length = ay := by unfold takL; rw [if_neg h]
  unfold cpA
  rw [if_pos e0, eN, eY, hl, rpd_ones ecut hn tl (Nat.le_refl _), ecut, List.take_length]
/-- What copying by a list tells, where it tells anything. -/
theorem cp_list {xs sy : List Int} {n : Nat} (hl : xs.length = n) (h : sy.length ≠ 0) (e : cpE [(n : Int)] xs sy = 0) : (n : Int) = nth sy 0 ∧ (∀ k, k < n → 0 ≤ nth xs k ∧ nth xs k ≤ 4096) ∧ sm xs ≤ 4096 ∧ cpS [(n : Int)] xs sy = sm xs :: sy.drop 1 := by
  have eS : cpS [(n : Int)] xs sy = cpT [(n : Int)] xs sy :: sy.drop 1 := by unfold cpS; rw [if_pos e]
  have eT : cpT [(n : Int)] xs sy = sm xs := by unfold cpT cpR; rw [if_neg (by simp)]; omega
  rw [eT] at eS
  unfold cpE at e
  split at e
  · cases e
  · rename_i h1
    split at e
    · cases e
    · rename_i h2
      split at e
      · cases e
      · rename_i h3
        rw [eT] at h3
        have hp : ∀ k, k < xs.length → 0 ≤ nth xs k := fun k hk => by
          by_cases q : nth xs k < 0
          · exact absurd (any_yes.2 ⟨k, hk, q⟩) h2
          · omega
        refine ⟨?_, fun k hk => numbers_bd hp (by omega) k (by omega), by omega, eS⟩
        have ht : tal sy = nth sy 0 := by unfold tal; rw [if_neg h]
        rw [← ht]
        by_cases q : (xs.length : Int) = tal sy
        · omega
        · exact absurd ⟨by simp, h, q⟩ h1
theorem cpS_no {sx ax sy : List Int} (h : cpE sx ax sy ≠ 0) : cpS sx ax sy = [] := by unfold cpS; rw [if_neg h]
theorem cpA_no {sx ax sy ay : List Int} (h : cpE sx ax sy ≠ 0) : cpA sx ax sy ay = [] := by unfold cpA; rw [if_neg h]
end Go.Proofs.Ytjnlkdeiccllgaa
