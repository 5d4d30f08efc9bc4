
/- Contract of package shape's Cover. -/

import Derived.Test.YtjnlkdeiccllgaaAgree

namespace Go.Proofs.Ytjnlkdeiccllgaa

open Go.RowKit

set_option linter.unusedVariables false

theorem Fr.head {w : World} {B : Nat} {ao : Option Addr} {n cap : Nat} {zs : List Int} (h : Fr w B ao n cap zs) (h0 : 0 < n) :
    ∃ g, ao = some ⟨g, 0, none⟩ ∧ B ≤ g ∧ g < w.heap.size ∧ (∀ k, k < n → w.cell? ⟨g, k, none⟩ = some (.int .i64 (nth zs k))) ∧ ∀ k, w.frozen? ⟨g, k, none⟩ = false := by
  rcases h.own.2 with ⟨e, h1⟩ | ⟨g, c, cur, e, hb, hg, _⟩
  · omega
  · cases e
    refine ⟨g, rfl, hb, (Array.getElem?_eq_some_iff.1 hg).1, fun k hk => ?_, fun k => h.own.frozenAt k⟩
    rw [h.own.cellAt k (by omega), nth_map (by rw [h.rd.len]; exact hk)]

theorem nth_set {zs : List Int} {j k : Nat} {u : Int} (hj : j < zs.length) : nth (zs.set j u) k = if k = j then u else nth zs k := by
  unfold nth
  by_cases e : k = j
  · subst e; simp [hj]
  · rw [if_neg e]
    simp [Ne.symm e]

theorem Fr.set {w : World} {B g : Nat} {n cap : Nat} {zs : List Int} (h : Fr w B (some ⟨g, 0, none⟩) n cap zs) (j : Nat) (hj : j < n) (u : Int) (h1 : -9223372036854775808 ≤ u) (h2 : u ≤ 9223372036854775807) :
    Fr (w.setCell ⟨g, j, none⟩ (.int .i64 u)) B (some ⟨g, 0, none⟩) n cap (zs.set j u) := by
  have hl := h.rd.len
  have hs := (h.own.stored j (.int .i64 u)).1
  rw [show (zs.map (Value.int .i64)).set j (.int .i64 u) = (zs.set j u).map (Value.int .i64) by rw [List.map_set]] at hs
  obtain ⟨ao, c, e, hf⟩ := Fr.mk' (zs := zs.set j u) (by rw [List.length_set]; exact hl) h.rd.room (fun k hk => by
    rw [nth_set (by omega)]
    split
    · exact ⟨h1, h2⟩
    · exact h.rd.num k hk) hs
  cases e
  exact hf

/-- A list with ones put ahead up to N numbers: the i-th of them. -/
def ext (a : List Int) (N i : Nat) : Int := if N - a.length ≤ i then nth a (i - (N - a.length)) else 1
/-- The common shape of two. -/
def com (a b : List Int) : List Int := (List.range (Nat.max a.length b.length)).map fun i => max (ext a (Nat.max a.length b.length) i) (ext b (Nat.max a.length b.length) i)
def comK (lo sh : List Int) (k : Nat) : List Int := (List.range lo.length).map fun i => if i < k then max (nth lo i) (ext sh lo.length i) else nth lo i

theorem nth_mk (f : Nat → Int) (N k : Nat) (h : k < N) : nth ((List.range N).map f) k = f k := by simp [nth, h]
theorem com_len (a b : List Int) : (com a b).length = Nat.max a.length b.length := by simp [com]
theorem comK_len (lo sh : List Int) (k : Nat) : (comK lo sh k).length = lo.length := by simp [comK]
theorem comK_zero (lo sh : List Int) : comK lo sh 0 = lo := by
  refine ext_nth (comK_len _ _ _) fun k hk => ?_
  rw [comK_len] at hk
  unfold comK; rw [nth_mk _ _ _ hk, if_neg (by omega)]
theorem comK_succ (lo sh : List Int) (k : Nat) (hk : k < lo.length) : comK lo sh (k + 1) = (comK lo sh k).set k (max (nth lo k) (ext sh lo.length k)) := by
  refine ext_nth (by rw [List.length_set, comK_len, comK_len]) fun i hi => ?_
  rw [comK_len] at hi
  rw [nth_set (by rw [comK_len]; exact hk)]
  unfold comK
  rw [nth_mk _ _ _ hi, nth_mk _ _ _ hi]
  by_cases e : i = k
  · subst e; rw [if_pos rfl, if_pos (by omega)]
  · rw [if_neg e]
    by_cases hlt : i < k
    · rw [if_pos hlt, if_pos (by omega)]
    · rw [if_neg hlt, if_neg (by omega)]
theorem comK_at (lo sh : List Int) (k : Nat) (hk : k < lo.length) : nth (comK lo sh k) k = nth lo k := by
  unfold comK; rw [nth_mk _ _ _ hk, if_neg (by omega)]
theorem ext_self {a : List Int} {N i : Nat} (h : N = a.length) : ext a N i = nth a i := by
  subst h; unfold ext; rw [if_pos (by omega), Nat.sub_self, Nat.sub_zero]
theorem comK_left {a b : List Int} (h : b.length ≤ a.length) : comK a b a.length = com a b := by
  have hN : Nat.max a.length b.length = a.length := Nat.max_eq_left h
  refine ext_nth (by rw [comK_len, com_len, hN]) fun k hk => ?_
  rw [comK_len] at hk
  unfold comK com
  rw [nth_mk _ _ _ hk, if_pos hk, hN, nth_mk _ _ _ hk, ext_self rfl]
theorem comK_right {a b : List Int} (h : a.length ≤ b.length) : comK b a b.length = com a b := by
  have hN : Nat.max a.length b.length = b.length := Nat.max_eq_right h
  refine ext_nth (by rw [comK_len, com_len, hN]) fun k hk => ?_
  rw [comK_len] at hk
  unfold comK com
  rw [nth_mk _ _ _ hk, if_pos hk, hN, nth_mk _ _ _ hk, ext_self (a := b) rfl, Int.max_comm]

theorem com_step {wr : World} {B b1 N c k : Nat} {zs ys : List Int} {x : Int} (hN : zs.length = N) (hfr : Fr wr B (some ⟨b1, 0, none⟩) N c (comK zs ys k)) (hk : k < N) (hx : ext ys N k = x) (h1 : -9223372036854775808 ≤ x) (h2 : x ≤ 9223372036854775807) :
    Fr (wr.setCell ⟨b1, k, none⟩ (.int .i64 (if nth (comK zs ys k) k < x then x else nth (comK zs ys k) k))) B (some ⟨b1, 0, none⟩) N c (comK zs ys (k + 1)) := by
  subst hx
  subst hN
  have hnu := hfr.rd.num k hk
  rw [comK_at zs ys k hk] at hnu ⊢
  rw [comK_succ zs ys k hk]
  have e : (if nth zs k < ext ys zs.length k then ext ys zs.length k else nth zs k) = max (nth zs k) (ext ys zs.length k) := by
    by_cases c : nth zs k < ext ys zs.length k
    · rw [if_pos c]; omega
    · rw [if_neg c]; omega
  rw [e]
  exact hfr.set k hk _ (by omega) (by omega)

theorem ext_low {ys : List Int} {N m k : Nat} (hl : ys.length = m) (h : k < N - m) : ext ys N k = 1 := by
  unfold ext; rw [hl, if_neg (by omega)]
theorem ext_high {ys : List Int} {N m j : Nat} (hl : ys.length = m) : ext ys N ((N - m) + j) = nth ys j := by
  unfold ext; rw [hl, if_pos (by omega)]; congr 1; omega

end Go.Proofs.Ytjnlkdeiccllgaa


namespace Go.Proofs.Ytjnlkdeiccllgaa

open Go.RowKit

set_option linter.unusedVariables false

/-- The k-th of some lists. -/
def row (zss : List (List Int)) (k : Nat) : List Int := zss.getD k []

/-- A slice of slices of numbers reads as these lists. -/
structure Rs (w : World) (ao : Option Addr) (n : Nat) (zss : List (List Int)) : Prop where
  len : zss.length = n
  room : n * 24 ≤ 140737488355328
  cells : 0 < n → ∃ b off, ao = some ⟨b, off, none⟩ ∧ b < w.heap.size ∧ ∀ k, k < n → ∃ A L C, w.cell? ⟨b, off + k, none⟩ = some (.slice A L C) ∧ Rd w A L (row zss k) ∧ Sl A L C

theorem Rs.below {B : Nat} {w w' : World} {ao : Option Addr} {n : Nat} {zss : List (List Int)} (h : Rs w ao n zss) (hb : Below B w w') (hB : w.heap.size ≤ B) : Rs w' ao n zss := by
  refine ⟨h.len, h.room, fun h0 => ?_⟩
  obtain ⟨b, off, e, hl, hc⟩ := h.cells h0
  refine ⟨b, off, e, Nat.lt_of_lt_of_le hl hb.size, fun k hk => ?_⟩
  obtain ⟨A, L, C, h1, h2, h3⟩ := hc k hk
  exact ⟨A, L, C, by rw [hb.cell (p := ⟨b, off + k, none⟩) (Nat.lt_of_lt_of_le hl hB)]; exact h1, h2.below hb hB, h3⟩

/-- The common shape of the first k (of none: the first one). -/
def cst (zss : List (List Int)) : Nat → List Int
  | 0 => row zss 0
  | k + 1 => com (cst zss k) (row zss k)
def errAt (zss : List (List Int)) (k : Nat) : Int := if mayF (row zss k) ≠ 0 then mayF (row zss k) else mayF (cst zss (k + 1))
/-- The first error of the first k. -/
def cE (zss : List (List Int)) : Nat → Int
  | 0 => 0
  | k + 1 => if cE zss k ≠ 0 then cE zss k else errAt zss k
def covE (zss : List (List Int)) : Int := if zss.length = 0 then 1 else cE zss zss.length
def covL (zss : List (List Int)) : List Int := if covE zss = 0 then cst zss zss.length else []

theorem cE_stay {zss : List (List Int)} {k : Nat} (h : cE zss k ≠ 0) : ∀ m, cE zss (k + m) = cE zss k
  | 0 => rfl
  | m + 1 => by
    show (if cE zss (k + m) ≠ 0 then cE zss (k + m) else errAt zss (k + m)) = _
    rw [cE_stay h m, if_pos h]
theorem cov_bad {zss : List (List Int)} {k n : Nat} {e : Int} (hl : zss.length = n) (hk : k < n) (h : cE zss (k + 1) = e) (he : e ≠ 0) : covE zss = e ∧ covL zss = [] := by
  have h1 : covE zss = e := by
    unfold covE; rw [if_neg (by omega), hl, show n = (k + 1) + (n - (k + 1)) by omega, cE_stay (by rw [h]; exact he), h]
  exact ⟨h1, by unfold covL; rw [h1, if_neg he]⟩
theorem cov_good {zss : List (List Int)} {n : Nat} (hl : zss.length = n) (h0 : 0 < n) (h : cE zss n = 0) : covE zss = 0 ∧ covL zss = cst zss n := by
  have h1 : covE zss = 0 := by unfold covE; rw [if_neg (by omega), hl, h]
  exact ⟨h1, by unfold covL; rw [h1, if_pos rfl, hl]⟩
theorem cE_row {zss : List (List Int)} {k : Nat} (h : cE zss k = 0) (hr : mayF (row zss k) ≠ 0) : cE zss (k + 1) = mayF (row zss k) := by
  show (if cE zss k ≠ 0 then cE zss k else errAt zss k) = _
  rw [if_neg (by simp [h])]; unfold errAt; rw [if_pos hr]
theorem cE_com {zss : List (List Int)} {k : Nat} (h : cE zss k = 0) (hr : mayF (row zss k) = 0) : cE zss (k + 1) = mayF (cst zss (k + 1)) := by
  show (if cE zss k ≠ 0 then cE zss k else errAt zss k) = _
  rw [if_neg (by simp [h])]; unfold errAt; rw [if_neg (by simp [hr])]

end Go.Proofs.Ytjnlkdeiccllgaa
