
/- Parts of an array, and its pieces: the numbers alone; the calls of Part that the law makes. -/

import Derived.Test.YtjllmfahmlfljaaG1
import Derived.Test.YtjllmfahmlfljaaC7


namespace Go.Proofs.Ytjllmfahmlfljaa

open Go.RowKit

set_option linter.unusedVariables false

/-- The shape of all items. -/
def sOf (sh : List Int) : List Int := if sh.length = 0 then [1] else sh
theorem sOf_cons (sh : List Int) : sOf sh = tal sh :: sh.drop 1 := by
  cases sh with
  | nil => rfl
  | cons x l => simp [sOf, tal, nth]
theorem sOf_len (sh : List Int) : (sOf sh).length = (sh.drop 1).length + 1 := by rw [sOf_cons]; rfl
structure Pa (sh at' : List Int) (m : Nat) : Prop where
  tm : tal sh = m
  m4 : m ≤ 4096
  sz : m * isz sh = at'.length
  ms : mayF (sh.drop 1) = 0
theorem pa_of {sh at' : List Int} (h : mayA sh at' = 0) : ∃ m, Pa sh at' m := by
  obtain ⟨a1, a2, a3, a4, a5, a6, a7⟩ := isz_all h
  obtain ⟨m, hm⟩ : ∃ m : Nat, tal sh = m := ⟨(tal sh).toNat, by omega⟩
  refine ⟨m, hm, by omega, ?_, a4⟩
  have e : (isz sh : Int) = pr (sh.drop 1) := by unfold isz; omega
  have : ((m * isz sh : Nat) : Int) = at'.length := by rw [Int.natCast_mul, e, ← hm, a1]
  omega
theorem part_in (so ao : Option Addr) (sn sc an ac : Nat) (sh at' : List Int) (m : Nat) (h0 : mayA sh at' = 0) (P : Pa sh at' m) (fr mm : Nat) (hk : fr + mm ≤ m) (f n : Int) (hf : f = fr) (hn : n = mm) (w : World) (h : Rd w so sn sh) (hs : Sl so sn sc) (g : Rd w ao an at') (gs : Sl ao an ac) :
    Calls Try.prog 21 #[.agg #[.slice so sn sc, .slice ao an ac], .int .i64 f, .int .i64 n] w fun e w' => ∃ o1 n1 c1 o2 n2 c2, e = .returned (.tuple #[.agg #[.slice o1 n1 c1, .slice o2 n2 c2], .int .i64 0]) ∧ Ft 3 w' w.heap.size o1 n1 c1 ((mm : Int) :: sh.drop 1) ∧ Ft 2 w' w.heap.size o2 n2 c2 ((at'.drop (fr * isz sh)).take (mm * isz sh)) ∧ Below w.heap.size w w' := by
  have m4 := P.m4
  obtain ⟨e1, e2, e3⟩ := prt_in (fr := fr) (m := mm) h0 (by rw [P.tm]; omega)
  subst hf hn
  have := part_any so ao sn sc an ac sh at' fr mm w h hs g gs (by omega) (by omega) (by omega) (by omega)
  rwa [e1, e2, e3] at this
theorem part_all (so ao : Option Addr) (sn sc an ac : Nat) (sh at' : List Int) (m : Nat) (h0 : mayA sh at' = 0) (P : Pa sh at' m) (w : World) (h : Rd w so sn sh) (hs : Sl so sn sc) (g : Rd w ao an at') (gs : Sl ao an ac) :
    Calls Try.prog 21 #[.agg #[.slice so sn sc, .slice ao an ac], .int .i64 0, .int .i64 (m : Nat)] w fun e w' => ∃ o1 n1 c1 o2 n2 c2, e = .returned (.tuple #[.agg #[.slice o1 n1 c1, .slice o2 n2 c2], .int .i64 0]) ∧ Ft 3 w' w.heap.size o1 n1 c1 (sOf sh) ∧ Ft 2 w' w.heap.size o2 n2 c2 at' ∧ Below w.heap.size w w' := by
  have := part_in so ao sn sc an ac sh at' m h0 P 0 m (by omega) 0 m rfl rfl w h hs g gs
  have e : (m : Int) :: sh.drop 1 = sOf sh := by rw [sOf_cons, P.tm]
  rw [Nat.zero_mul, List.drop_zero, P.sz, List.take_length, e] at this
  exact this
theorem three_parts {sh at' : List Int} {m fr nn s2 r2 : Nat} (P : Pa sh at' m) (h1 : s2 = fr + nn) (h2 : m = s2 + r2) :
    (at'.drop (0 * isz sh)).take (fr * isz sh) ++ (at'.drop (fr * isz sh)).take (nn * isz sh) ++ (at'.drop (s2 * isz sh)).take (r2 * isz sh) = at' := by
  have e := P.sz
  rw [Nat.zero_mul, List.drop_zero, ← List.take_add, ← Nat.add_mul, ← h1, ← List.take_add, ← Nat.add_mul, ← h2, e, List.take_length]
theorem lng_may {n : Int} {l : List Int} (h : mayF l = 0) : mayF ((lng n : Int) :: l) = 0 ∨ mayF ((lng n : Int) :: l) = 17 := by
  rcases mayF_cases ((lng n : Int) :: l) with c | c | c
  · exact .inl c
  · exfalso
    have a := any_no (zs := (lng n : Int) :: l) (fun k hk => by
      cases k with
      | zero => simp [nth]
      | succ k => have := (mayF_zero h).1 k (by simpa using hk); simpa [nth] using this)
    unfold mayF at c
    rw [a] at c
    simp only [Bool.false_eq_true, if_false] at c
    split at c
    · omega
    · split at c <;> omega
  · exact .inr c
theorem lng_ok {n : Int} {l : List Int} (hn : n ≠ 0) (h : mayF ((lng n : Int) :: l) = 0) : (lng n : Int) = n.natAbs ∧ n.natAbs ≤ 4096 := by
  obtain ⟨h1, h2, h3⟩ := mayF_zero h
  have h4 := pz_up (l := (lng n : Int) :: l) (i := 1) ((lng n : Int) :: l).length (by simp) (Nat.le_refl _) (fun k hk => h1 k hk)
  rw [List.take_length] at h4
  have h5 : lng n ≠ 0 := by unfold lng; omega
  have h6 : pz (((lng n : Int) :: l).take 1) = lng n := by simp [pz, h5]
  have h7 : lng n = min n.natAbs 4097 := rfl
  omega

/-- What the law asks of pieces. -/
structure Pz (m : Nat) (n : Int) (K : Nat) (p : Nat → Int × Int) (nx : Nat → Int) (mo : Int) : Prop where
  x0 : nx 0 = 0
  step : ∀ k, k < K → nx (k + 1) = (p k).1 + (p k).2
  last : nx K = m
  pos : 0 < n → ∀ k, k < K → (p k).1 = k ∧ (p k).2 = n
  neg : n < 0 → ∀ k, k < K → (p k).1 = nx k ∧ 1 ≤ (p k).2 ∧ (p k).2 ≤ mo ∧ ((k : Int) < (K : Int) - 1 → (p k).2 = mo)
  bd : ∀ k, k < K → 0 ≤ (p k).1 ∧ (p k).1 ≤ 4096 ∧ 0 ≤ (p k).2 ∧ (p k).2 ≤ 4096
  k5 : K ≤ 5000
def mst (n : Int) : Int := if -5000 < n then -n else 5000
theorem pz_of {m : Nat} {n : Int} {K : Nat} {p : Nat → Int × Int} (h : Pcs m n K p) (h0 : n ≠ 0) (hK : 0 < K) (hm : m ≤ 4096) : ∃ nx, Pz m n K p nx (mst n) := by
  rcases Int.lt_or_gt_of_ne h0 with c | c
  · obtain ⟨q, e1, e2, rfl⟩ := h.neg c
    have q0 : 0 < q := by
      have := (e2 0).1 hK
      rw [Nat.zero_mul] at this
      omega
    have hl := (e2 (K - 1)).1 (by omega)
    have hg : m ≤ K * q := by
      rcases Nat.lt_or_ge (K * q) m with x | x
      · exact absurd ((e2 K).2 x) (Nat.lt_irrefl _)
      · exact x
    have hq : q ≤ m := by omega
    refine ⟨fun k => ((min (k * q) m : Nat) : Int), by simp, fun k hk => ?_, by show ((min (K * q) m : Nat) : Int) = m; omega, fun c' => by omega, fun _ k hk => ?_, fun k hk => ?_, ?_⟩
    · have hk' := (e2 k).1 hk
      simp only [chk]
      rw [Nat.succ_mul]
      generalize k * q = z at *
      omega
    · have hk' := (e2 k).1 hk
      have e3 : (chk m q k).1 = ((k * q : Nat) : Int) := rfl
      have e4 : (chk m q k).2 = ((min q (m - k * q) : Nat) : Int) := rfl
      rw [e3, e4]
      refine ⟨by omega, by omega, ?_, fun hk2 => ?_⟩
      · unfold mst
        split <;> omega
      · have h5 := (e2 (k + 1)).1 (by omega)
        rw [Nat.succ_mul] at h5
        have h6 : 1 * q ≤ (k + 1) * q := Nat.mul_le_mul_right q (by omega)
        rw [Nat.succ_mul] at h6
        generalize k * q = z at *
        unfold mst
        split <;> omega
    · have hk' := (e2 k).1 hk
      have e3 : (chk m q k).1 = ((k * q : Nat) : Int) := rfl
      have e4 : (chk m q k).2 = ((min q (m - k * q) : Nat) : Int) := rfl
      rw [e3, e4]
      omega
    · have h6 : (K - 1) * 1 ≤ (K - 1) * q := Nat.mul_le_mul_left _ q0
      omega
  · obtain ⟨e1, rfl⟩ := h.pos c
    refine ⟨fun k => if k = 0 then 0 else (k : Int) - 1 + n, by simp, fun k hk => ?_, ?_, fun _ k hk => ⟨rfl, rfl⟩, fun c' => by omega, fun k hk => by simp only []; omega, by omega⟩
    · show (if k + 1 = 0 then (0 : Int) else ((k + 1 : Nat) : Int) - 1 + n) = (k : Int) + n
      rw [if_neg (by omega)]
      omega
    · show (if K = 0 then (0 : Int) else (K : Int) - 1 + n) = m
      rw [if_neg (by omega)]
      omega
theorem pc_none {m : Nat} {n : Int} {p : Nat → Int × Int} (h : Pcs m n 0 p) (h0 : n ≠ 0) : (0 < n → (m : Int) < n) ∧ (n < 0 → m = 0) := by
  refine ⟨fun c => ?_, fun c => ?_⟩
  · obtain ⟨e1, _⟩ := h.pos c
    omega
  · obtain ⟨q, _, e2, _⟩ := h.neg c
    rcases Nat.eq_zero_or_pos m with x | x
    · exact x
    · exact absurd ((e2 0).2 (by rw [Nat.zero_mul]; exact x)) (Nat.lt_irrefl _)
end Go.Proofs.Ytjllmfahmlfljaa
