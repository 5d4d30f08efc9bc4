
/- MoldRounds: turns add up, in numbers; Dyad of PRev by one number. -/

import Derived.Test.YtjpdjnkmipfmbaaGreatMZ

namespace Go.Proofs.YtjpdjnkmipfmbaaGreat

open Go.RowKit

set_option linter.unusedVariables false

/-- The axes of an array that is turned by a number. -/
def rtX (sh : List Int) (n : Int) : List Ax := chL tuA (axsOf sh) [n]
/-- Its atoms. -/
def rtA (sh at' : List Int) (n : Int) : List Int := if sh.length = 0 then at' else gth at' (rtX sh n)
theorem rtX_cons (z : Int) (r : List Int) (n : Int) : rtX (z :: r) n = tuA ⟨z.toNat, z.toNat, (pr r).toNat, fun i => (i : Int)⟩ n :: axsOf r := by
  simp [rtX, axsOf, chL]
theorem tu_len (a : Ax) (n : Int) : (tuA a n).len = a.len ∧ (tuA a n).wid = a.wid ∧ (tuA a n).stp = a.stp := by
  unfold tuA; split <;> exact ⟨rfl, rfl, rfl⟩
theorem tmod_turn {Z : Nat} (hZ : 0 < Z) (i : Nat) (n : Int) : Int.tmod ((i : Int) + Int.tmod n (Z : Int) + (Z : Int)) (Z : Int) = ((i : Int) + n) % (Z : Int) := by
  have h1 := Int.lt_tmod_of_pos n (show (0 : Int) < (Z : Int) by omega)
  rw [Int.tmod_eq_emod_of_nonneg (by omega)]
  have e : (i : Int) + Int.tmod n (Z : Int) + (Z : Int) = ((i : Int) + n) + (Z : Int) * (1 - Int.tdiv n (Z : Int)) := by
    have := Int.tmod_def n (Z : Int)
    rw [this, Int.mul_sub]; omega
  rw [e, Int.add_mul_emod_self_left]
theorem rtA_rows {z : Int} {r at' : List Int} (h : mayF (z :: r) = 0) (hl : (at'.length : Int) = pr (z :: r)) (n : Int) :
    rtA (z :: r) at' n = rows z.toNat (pr r).toNat (fun i j => nth at' ((((i : Int) + n) % (z.toNat : Int)).toNat * (pr r).toNat + j)) := by
  have hz := (mayF_zero h).1
  have hr : ∀ k, k < r.length → 0 ≤ nth r k := fun k hk => hz (k + 1) (by simpa using hk)
  unfold rtA
  rw [if_neg (by simp), rtX_cons]
  obtain ⟨e1, e2, e3⟩ := tu_len ⟨z.toNat, z.toNat, (pr r).toNat, fun i => (i : Int)⟩ n
  rw [gth_first at' _ hr e3, e1]
  refine rows_congr fun i hi j hj => ?_
  have hZ : 0 < z.toNat := by dsimp only at hi; omega
  have ef : (tuA ⟨z.toNat, z.toNat, (pr r).toNat, fun i => (i : Int)⟩ n).f i = ((i : Int) + n) % (z.toNat : Int) := by
    unfold tuA
    rw [if_neg (by dsimp only; omega)]
    exact tmod_turn hZ i n
  have b1 := Int.emod_nonneg ((i : Int) + n) (show (z.toNat : Int) ≠ 0 by omega)
  have b2 := Int.emod_lt_of_pos ((i : Int) + n) (show (0 : Int) < (z.toNat : Int) by omega)
  rw [ef, e2, if_neg (by dsimp only; omega)]
theorem rtA_len {sh at' : List Int} (h : mayF sh = 0) (hl : (at'.length : Int) = pr sh) (n : Int) : ((rtA sh at' n).length : Int) = pr sh := by
  cases sh with
  | nil => exact hl
  | cons z r =>
    have hz := (mayF_zero h).1
    have h0 : 0 ≤ z := hz 0 (by simp)
    have hr : ∀ k, k < r.length → 0 ≤ nth r k := fun k hk => hz (k + 1) (by simpa using hk)
    have hp := pr_nonneg hr
    rw [rtA_rows h hl, rows_len, pr_cons, Int.natCast_mul, Int.toNat_of_nonneg h0, Int.toNat_of_nonneg hp]
theorem rtA_add {sh at' : List Int} (h : mayF sh = 0) (hl : (at'.length : Int) = pr sh) (n m : Int) : rtA sh (rtA sh at' n) m = rtA sh at' (n + m) := by
  cases sh with
  | nil => unfold rtA; rfl
  | cons z r =>
    rw [rtA_rows h (rtA_len h hl n), rtA_rows h hl (n + m), rtA_rows h hl n]
    refine rows_congr fun i hi j hj => ?_
    have b1 := Int.emod_nonneg ((i : Int) + m) (show (z.toNat : Int) ≠ 0 by omega)
    have b2 := Int.emod_lt_of_pos ((i : Int) + m) (show (0 : Int) < (z.toNat : Int) by omega)
    rw [nth_rows (by omega) hj]
    congr 3
    rw [Int.toNat_of_nonneg b1, Int.emod_add_emod, show (i : Int) + m + n = (i : Int) + (n + m) by omega]
theorem rtA_self {z : Int} {r at' : List Int} (h : mayF (z :: r) = 0) (hl : (at'.length : Int) = pr (z :: r)) {n : Int} (hn : n % (z.toNat : Int) = 0) : rtA (z :: r) at' n = at' := by
  have hz := (mayF_zero h).1
  have h0 : 0 ≤ z := hz 0 (by simp)
  have hr : ∀ k, k < r.length → 0 ≤ nth r k := fun k hk => hz (k + 1) (by simpa using hk)
  have hp := pr_nonneg hr
  rw [rtA_rows h hl]
  rw [rows_congr (G := fun i j => nth at' (i * (pr r).toNat + j)) (fun i hi j hj => by
    have : ((i : Int) + n) % (z.toNat : Int) = (i : Int) := by
      rw [Int.add_emod, hn, Int.add_zero, Int.emod_emod_of_dvd _ (Int.dvd_refl _), Int.emod_eq_of_lt (by omega) (by omega)]
    rw [this]; simp)]
  apply rows_self
  have : ((z.toNat * (pr r).toNat : Nat) : Int) = z * pr r := by rw [Int.natCast_mul, Int.toNat_of_nonneg h0, Int.toNat_of_nonneg hp]
  rw [pr_cons] at hl
  omega
theorem rtA_zero {sh at' : List Int} (h : mayF sh = 0) (hl : (at'.length : Int) = pr sh) : rtA sh at' 0 = at' := by
  cases sh with
  | nil => unfold rtA; rfl
  | cons z r => exact rtA_self h hl (by simp)

theorem lens_rtX {z : Int} {r : List Int} (h : mayF (z :: r) = 0) (n : Int) : lens (rtX (z :: r) n) = z :: r := by
  have hz := (mayF_zero h).1
  have h0 : 0 ≤ z := hz 0 (by simp)
  rw [rtX_cons]
  show (((tuA ⟨z.toNat, z.toNat, (pr r).toNat, fun i => (i : Int)⟩ n).len : Nat) : Int) :: lens (axsOf r) = z :: r
  rw [(tu_len _ n).1, lens_axsOf (fun k hk => hz (k + 1) (by simpa using hk)), Int.toNat_of_nonneg h0]
set_option maxHeartbeats 1000000 in
/-- PRev by a scalar. -/
theorem rev_any (so ao xo : Option Addr) (sn sc an ac xc : Nat) (sh at' : List Int) (n : Int) (w : World) (hs : Rd w so sn sh) (ss : Sl so sn sc) (ha : Rd w ao an at') (sa : Sl ao an ac) (hx : Rd w xo 1 [n]) (my : mayA sh at' = 0) :
    Calls Tryz.prog 6 #[.int .i64 32, .agg #[.slice none 0 0, .slice xo 1 xc], .agg #[.slice so sn sc, .slice ao an ac]] w fun e w' => Ans w w.heap.size sh (rtA sh at' n) 0 e w' := by
  refine dyad_rev none xo so ao 0 0 1 xc sn sc an ac [] [n] sh at' sh (rtA sh at' n) 0 w (Rd.nil w) hx hs ha (by rfl) my (by omega) (fun V k => ?_)
  obtain ⟨m1, m2⟩ := mayA_zero my
  cases sh with
  | nil =>
    have e0 : sn = 0 := hs.len.symm
    subst e0
    have := rotate_sc none xo so ao 0 0 1 xc sc an ac at' V (Rd.below hs k (Nat.le_refl _)) ss (ha.below k (Nat.le_refl _)) sa (Nat.le_refl _)
    exact this
  | cons z r =>
    have hz := (mayF_zero m1).1
    have h0 : 0 ≤ z := hz 0 (by simp)
    have hr : ∀ k, k < r.length → 0 ≤ nth r k := fun k hk => hz (k + 1) (by simpa using hk)
    have hsl := hs.len
    have hlen := lens_rtX m1 n
    have hnax : ∀ k, k < sn → (nax (rtX (z :: r) n) k).len ≤ 1000000 := fun k hk => by
      have e := lens_nth (axs := rtX (z :: r) n) (k := k) (by rw [← lens_len, hlen, hsl]; exact hk)
      rw [hlen] at e
      have := nth_small m1 (k := k) (by rw [hsl]; exact hk)
      omega
    have := rotate_turn none xo so ao 0 0 1 xc sn sc an ac [n] (z :: r) at' V (hx.below k (Nat.le_refl _)) (hs.below k (Nat.le_refl _)) (ha.below k (Nat.le_refl _)) m1 (by rw [← hsl]; simp) (by rw [← hsl]; simp) hnax (fun _ => by
      show ∀ p, p ∈ pls (rtX (z :: r) n) → _
      rw [rtX_cons]
      refine pls_first_in hr (tu_len _ n).2.2 ?_
      rw [(tu_len _ n).2.1]
      rw [pr_cons, ha.len] at m2
      show ((z.toNat : Nat) : Int) * pr r ≤ _
      rw [Int.toNat_of_nonneg h0]; omega)
    rw [show chL tuA (axsOf (z :: r)) [n] = rtX (z :: r) n from rfl, hlen, m1, show filS (z :: r) = z :: r from if_pos m1, show gthS at' (rtX (z :: r) n) = rtA (z :: r) at' n by unfold gthS rtA; rw [hlen, if_pos m1, if_neg (by simp)]] at this
    exact this
theorem rev_may {sh at' : List Int} (my : mayA sh at' = 0) (n : Int) : mayA sh (rtA sh at' n) = 0 := by
  obtain ⟨m1, m2⟩ := mayA_zero my
  exact mayA_ok m1 (rtA_len m1 m2 n)
end Go.Proofs.YtjpdjnkmipfmbaaGreat
