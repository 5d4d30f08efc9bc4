
/- Contract: some items in a row. -/

import Derived.Test.YtjpdjnkmipfmbaaGreatC3
import Derived.Test.YtjpdjnkmipfmbaaGreatB5m


namespace Go.Proofs.YtjpdjnkmipfmbaaGreat

open Go.RowKit

set_option linter.unusedVariables false

/-- A part of a slice, wherever it lies. -/
theorem Rd.sub {w : World} {ao po : Option Addr} {n ac lo hi : Nat} {zs : List Int} (h : Rd w ao n zs) (hs : Sl ao n ac) (hpo : (if ac = lo then ao else Option.map (fun x => x.add lo) ao) = po) (h1 : lo ≤ hi) (h2 : hi ≤ n) : Rd w po (hi - lo) ((zs.drop lo).take (hi - lo)) ∧ Sl po (hi - lo) (ac - lo) := by
  have hle := hs.le
  have hmx := hs.max
  subst hpo
  by_cases c : ac = lo
  · rw [if_pos c]
    have e : hi - lo = 0 := by omega
    rw [e, List.take_zero]
    exact ⟨Rd.empty _ _, fun e' => ⟨rfl, by omega⟩, by omega, by omega⟩
  · rw [if_neg c]
    cases ao with
    | none => have := hs.nil rfl; omega
    | some a =>
      refine ⟨?_, fun e => (by simp at e), by omega, by omega⟩
      by_cases h0 : hi - lo = 0
      · rw [h0, List.take_zero]; exact Rd.empty _ _
      · obtain ⟨b, off, e, _, _⟩ := h.cells (by omega)
        cases e
        have := h.part (lo := lo) (hi := hi) (z := hi - lo) (by omega) h2
        rw [Option.map_some, add_at]
        exact this

/-- Which error Part tells, the shape and the atoms. -/
def prtE (sh at' : List Int) (f n : Int) : Int := if mayA sh at' ≠ 0 then 1 else if f < 0 ∨ n < 0 ∨ tal sh - f < n then 13 else 0
def isz (sh : List Int) : Nat := (pr (sh.drop 1)).toNat
def prtS (sh at' : List Int) (f n : Int) : List Int := if prtE sh at' f n = 0 then n :: sh.drop 1 else []
def prtA (sh at' : List Int) (f n : Int) : List Int := if prtE sh at' f n = 0 then (at'.drop (f.toNat * isz sh)).take (n.toNat * isz sh) else []

theorem isz_all {sh at' : List Int} (h : mayA sh at' = 0) : tal sh * pr (sh.drop 1) = at'.length ∧ 0 ≤ pr (sh.drop 1) ∧ pr (sh.drop 1) ≤ 4096 ∧ mayF (sh.drop 1) = 0 ∧ 0 ≤ tal sh ∧ tal sh ≤ 4096 ∧ at'.length ≤ 4096 := by
  obtain ⟨h0, h1⟩ := mayA_zero h
  have t := mayF_tail h0
  have p := pr_small t (sh.drop 1).length (Nat.le_refl _)
  rw [List.take_length] at p
  have q := pr_small h0 sh.length (Nat.le_refl _)
  rw [List.take_length] at q
  have b := tal_bd h0
  refine ⟨?_, p.1, p.2, t, b.1, b.2, by omega⟩
  rw [h1]
  cases sh with
  | nil => simp [tal, pr]
  | cons x r => rw [pr_cons]; simp [tal, nth]

set_option maxHeartbeats 4000000 in
set_option maxRecDepth 20000 in
theorem part_ok (so ao : Option Addr) (sn sc an ac : Nat) (sh at' : List Int) (fr m : Nat) (w : World) (h : Rd w so sn sh) (hs : Sl so sn sc) (g : Rd w ao an at') (gs : Sl ao an ac) (h0 : mayA sh at' = 0) (hfm : (fr : Int) + m ≤ tal sh) :
    Calls Tryz.prog 73 #[.agg #[.slice so sn sc, .slice ao an ac], .int .i64 (fr : Nat), .int .i64 (m : Nat)] w fun e w' => ∃ o1 n1 c1 o2 n2 c2, e = .returned (.tuple #[.agg #[.slice o1 n1 c1, .slice o2 n2 c2], .int .i64 0]) ∧ Ft 3 w' w.heap.size o1 n1 c1 ((m : Int) :: sh.drop 1) ∧ Ft 2 w' w.heap.size o2 n2 c2 ((at'.drop (fr * isz sh)).take (m * isz sh)) ∧ Below w.heap.size w w' := by
  have hsl := fun h0 => h.lt h0
  have hal := fun h0 => g.lt h0
  obtain ⟨a1, a2, a3, a4, a5, a6, a7⟩ := isz_all h0
  have gl := g.len
  have hl := h.len
  have hsn : sn ≤ 8 := by rw [← hl]; exact (mayF_zero (mayA_zero h0).1).2.1
  have I0 := it_start w so sn sc ao an ac sh at' h g
  have hm := mayA_any so ao sn sc an ac sh at' _ I0.s I0.a
  have hi := fun W (x : Rd W so sn sh) (y : Rd W ao an at') => items_any so ao sn sc an ac sh at' W x y
  have hit := fun W (x : Rd W so sn sh) => item4_any so ao sn sc an ac sh W x hs
  have hzz := fun W o c (x : Rd W o (sn - 1) (sh.drop 1)) => size_any o (sn - 1) c (sh.drop 1) W x
  rw [h0] at hm
  have hie : itm sh at' = tal sh := if_pos h0
  rw [hie] at hi
  rw [sizeF_ok a4, a4] at hzz
  obtain ⟨N, hN⟩ : ∃ N : Nat, tal sh = N := ⟨(tal sh).toNat, by omega⟩
  obtain ⟨z, hz⟩ : ∃ z : Nat, pr (sh.drop 1) = z := ⟨(pr (sh.drop 1)).toNat, by omega⟩
  have hz' : isz sh = z := by unfold isz; rw [hz]; simp
  rw [hz']
  rw [hN] at hi hfm a1 a5 a6
  rw [hz] at hzz a1 a2 a3
  have HNz : N * z = an := by rw [← gl]; exact_mod_cast a1
  have hle : (fr + m) * z ≤ an := by rw [← HNz]; exact Nat.mul_le_mul_right _ (by omega)
  obtain ⟨lo, hlo⟩ : ∃ lo : Nat, fr * z = lo := ⟨_, rfl⟩
  obtain ⟨hi', hhi⟩ : ∃ hi : Nat, (fr + m) * z = hi := ⟨_, rfl⟩
  have m1 : ((fr : Int) * (z : Int)) = (lo : Int) := by rw [← hlo]; simp
  have m2 : (((fr : Int) + (m : Int)) * (z : Int)) = (hi' : Int) := by rw [← hhi]; simp
  have m3 : m * z = hi' - lo := by rw [← hlo, ← hhi, Nat.add_mul]; omega
  rw [hhi] at hle
  rw [hlo, m3]
  have hlh : lo ≤ hi' := by rw [← hlo, ← hhi]; exact Nat.mul_le_mul_right _ (by omega)
  have gle := gs.le
  have gmx := gs.max
  have b1 : (lo : Int) ≤ (hi' : Int) := by omega
  have b2 : (hi' : Int) ≤ (ac : Int) := by omega
  have b0 : (0 : Int) ≤ (lo : Int) := by omega
  have t1 : decide ((fr : Int) < 0) = false := by simp
  have t2 : decide ((m : Int) < 0) = false := by simp
  have t3 : decide ((N : Int) - (fr : Int) < (m : Int)) = false := by simp; omega
  have w1 : IntKind.i64.wrap (lo : Int) = (lo : Int) := wrapIn _ (by omega)
  have w2 : IntKind.i64.wrap ((fr : Int) + (m : Int)) = (fr : Int) + (m : Int) := wrapIn _ (by omega)
  have w3 : IntKind.i64.wrap (hi' : Int) = (hi' : Int) := wrapIn _ (by omega)
  have w4 : IntKind.i64.wrap ((N : Int) - (fr : Int)) = (N : Int) - (fr : Int) := wrapIn _ (by omega)
  obtain ⟨po, hpo⟩ : ∃ po, (if ac = lo then ao else Option.map (fun x => x.add lo) ao) = po := ⟨_, rfl⟩
  have M9 : Hid ((m : Int) ≤ 9223372036854775807) := by show _ ≤ _; omega
  clear hlo hhi hz hz' hN h0 hie a1 a2 a3 a4 a5 a6 a7 HNz m3
  go_enter Tryz.func73, Tryz.ntmps73
  go_wp2_with (first
    | (go_at_call 18; refine hm.mono ?_; rintro e W1 ⟨rfl, h1⟩; have I1 := I0.below h1; obtain ⟨p0, p1, _, _, _, _⟩ := I1)
    | (go_at_call 51; refine (hi _ (I0.below h1).s (I0.below h1).a).mono ?_; rintro e W2 ⟨rfl, h2⟩; have I2 := (I0.below h1).below h2; obtain ⟨q0, q1, _, _, _, _⟩ := I2)
    | (go_at_call 97; refine (hit _ ((I0.below h1).below h2).s).mono ?_; rintro e W3 ⟨o3, c3, rfl, f3, h3⟩; have I3 := ((I0.below h1).below h2).below h3; obtain ⟨r0, r1, _, _, _, _⟩ := I3)
    | (go_at_call 21; refine (hzz _ _ _ f3.rd).mono ?_; rintro e W4 ⟨rfl, hw4⟩; rw [hw4]; clear hw4 W4))
  have U2 := ((I0.below h1).below h2).u
  have U3 := (((I0.below h1).below h2).below h3).u
  have hsz : w.heap.size + 1 < W2.heap.size := (Array.getElem?_eq_some_iff.1 ((I0.below h1).below h2).r).1
  have hs3 := h3.size
  have m9 : (m : Int) ≤ 9223372036854775807 := M9.out
  have k3 : Below W2.heap.size W2 (W3.alloc (.cells #[.int .i64 (m : Int)] 3)).drew := (h3.alloc hs3 _).drew
  have f3' := (f3.below (box_below W3 (.cells #[.int .i64 (m : Int)] 3)) (Nat.le_refl _)).below (Below.refl _ (W3.alloc (.cells #[.int .i64 (m : Int)] 3))).drew (Nat.le_refl _)
  have hv : (W3.alloc (.cells #[.int .i64 (m : Int)] 3)).drew.heap[W3.heap.size]? = _ := allocNew W3 (.cells #[.int .i64 (m : Int)] 3)
  have ins := insert0_any o3 (sn - 1) c3 (sh.drop 1) (m : Int) W3.heap.size W2.heap.size _ f3' hv (fun b off e => by have := (f3.at b off e).2; omega) (by omega) (by simp; omega) (by omega) m9
  clear I0 hm hi hit hzz p0 p1 q0 q1 r0 r1 hv f3'
  go_region_held3 (fun W => W.cell? ⟨w.heap.size, 0, none⟩ = some (.slice so sn sc) ∧ W.cell? ⟨w.heap.size, 1, none⟩ = some (.slice ao an ac) ∧ Iu w W so sn sc ao an ac sh at') (first | exact Iu.all (by assumption) | exact Iu.all (Iu.drew (by assumption)) | exact Iu.all ((Iu.drew (by assumption)).below (box_below _ _)) | exact Iu.all ((‹_ ∧ _ ∧ Iu w _ so sn sc ao an ac sh at'›).2.2.below (box_below _ _)) | exact Iu.all (Iu.set (by assumption) hsl hal _ _))
    (first
      | (go_at_call 98; (with_reducible refine ins.mono ?_); rintro e w4 ⟨o4, c4, rfl, f4, h4⟩; have k4 := k3.trans h4; have I4 := U2.below k4)
      | (go_at_call 99; (with_reducible refine (clone8_any _ _ _ _ _ (I4.a.sub gs hpo hlh hle).1 (I4.a.sub gs hpo hlh hle).2).mono ?_); rintro e w5 ⟨o5, c5, rfl, f5, h5⟩; have I5 := I4.below h5; obtain ⟨x5, y5, hr5⟩ := I5.r; obtain ⟨k0, k1, z0, z1⟩ := box2 hr5))
  go_wp2
  (try simp only [Exit.inBlock, Exit.then])
  refine bodyPost_ret (v := .tuple #[.agg #[.slice o4 (sn - 1 + 1) c4, .slice o5 (hi' - lo) c5], .int .i64 0]) (by rw [results_cell_tmp rfl]; go_simp) rfl ?_
  have s4 := k4.size
  have a4 := f4.at
  have a5 := f5.at
  have k := set2 w5 (w.heap.size + 1) 0 1 (.slice o4 (sn - 1 + 1) c4) (.slice o5 (hi' - lo) c5)
  refine ⟨o4, _, c4, o5, _, c5, rfl, ((f4.below h5 (Nat.le_refl _)).keep1 k (fun b off e => ?_)).mono (by omega), (f5.keep1 k (fun b off e => ?_)).mono (by omega), below_set2 _ _ _ _ I5.bel (by omega) (Nat.le_refl _)⟩
  · have := (a4 b off e).1; intro e'; cases e'; omega
  · have := (a5 b off e).1; intro e'; cases e'; omega

theorem prt_may {sh at' : List Int} {f n : Int} (h : mayA sh at' ≠ 0) : prtE sh at' f n = 1 ∧ prtS sh at' f n = [] ∧ prtA sh at' f n = [] := by
  have e : prtE sh at' f n = 1 := if_pos h
  exact ⟨e, by unfold prtS; rw [e]; rfl, by unfold prtA; rw [e]; rfl⟩
theorem prt_out {sh at' : List Int} {f n : Int} (h : mayA sh at' = 0) (k : f < 0 ∨ n < 0 ∨ tal sh - f < n) : prtE sh at' f n = 13 ∧ prtS sh at' f n = [] ∧ prtA sh at' f n = [] := by
  have e : prtE sh at' f n = 13 := by unfold prtE; rw [if_neg (by omega), if_pos k]
  exact ⟨e, by unfold prtS; rw [e]; rfl, by unfold prtA; rw [e]; rfl⟩
theorem prt_in {sh at' : List Int} {fr m : Nat} (h : mayA sh at' = 0) (k : (fr : Int) + m ≤ tal sh) : prtE sh at' fr m = 0 ∧ prtS sh at' fr m = (m : Int) :: sh.drop 1 ∧ prtA sh at' fr m = (at'.drop (fr * isz sh)).take (m * isz sh) := by
  have e : prtE sh at' fr m = 0 := by unfold prtE; rw [if_neg (by omega), if_neg (by omega)]
  exact ⟨e, by unfold prtS; rw [if_pos e], by unfold prtA; rw [if_pos e]; simp⟩

set_option maxHeartbeats 2000000 in
theorem part_may (so ao : Option Addr) (sn sc an ac : Nat) (sh at' : List Int) (f n : Int) (w : World) (h : Rd w so sn sh) (g : Rd w ao an at') (h0 : mayA sh at' ≠ 0) :
    Calls Tryz.prog 73 #[.agg #[.slice so sn sc, .slice ao an ac], .int .i64 f, .int .i64 n] w fun e w' => e = .returned (.tuple #[.agg #[.slice none 0 0, .slice none 0 0], .int .i64 1]) ∧ Below w.heap.size w w' := by
  have I0 := it_start w so sn sc ao an ac sh at' h g
  have hm := mayA_any so ao sn sc an ac sh at' _ I0.s I0.a
  have h0' : (mayA sh at' != 0) = true := by simpa using h0
  clear h0
  go_enter Tryz.func73, Tryz.ntmps73
  go_wp2_with (go_at_call 18; refine hm.mono ?_; rintro e W1 ⟨rfl, h1⟩; have I1 := I0.below h1; obtain ⟨p0, p1, pr1, _, _, pb⟩ := I1; obtain ⟨k0, k1, z0, z1⟩ := box2 pr1)
  (try simp only [Exit.inBlock, Exit.then])
  refine bodyPost_ret (v := .tuple #[.agg #[.slice none 0 0, .slice none 0 0], .int .i64 1]) (by rw [results_cell_tmp rfl]; go_simp) rfl ?_
  exact ⟨rfl, by first | exact pb | exact below_set2 _ _ _ _ pb (by omega) (Nat.le_refl _)⟩

set_option maxHeartbeats 4000000 in
theorem part_out (so ao : Option Addr) (sn sc an ac : Nat) (sh at' : List Int) (f n : Int) (w : World) (h : Rd w so sn sh) (g : Rd w ao an at') (h0 : mayA sh at' = 0) (f1 : -9223372036854775808 ≤ f) (f2 : f ≤ 9223372036854775807) (n1 : -9223372036854775808 ≤ n) (n2 : n ≤ 9223372036854775807) (k : f < 0 ∨ n < 0 ∨ tal sh - f < n) :
    Calls Tryz.prog 73 #[.agg #[.slice so sn sc, .slice ao an ac], .int .i64 f, .int .i64 n] w fun e w' => e = .returned (.tuple #[.agg #[.slice none 0 0, .slice none 0 0], .int .i64 13]) ∧ Below w.heap.size w w' := by
  have I0 := it_start w so sn sc ao an ac sh at' h g
  have hm := mayA_any so ao sn sc an ac sh at' _ I0.s I0.a
  have hi := fun W (x : Rd W so sn sh) (y : Rd W ao an at') => items_any so ao sn sc an ac sh at' W x y
  have hie : itm sh at' = tal sh := if_pos h0
  rw [hie] at hi
  have bd := tal_bd (mayA_zero h0).1
  rw [h0] at hm
  clear h0 hie
  generalize tal sh = N at *
  have hk : (decide (f < 0) = true) ∨ (decide (f < 0) = false ∧ decide (n < 0) = true) ∨ (decide (f < 0) = false ∧ decide (n < 0) = false ∧ decide (N - f < n) = true ∧ IntKind.i64.wrap (N - f) = N - f) := by
    by_cases c1 : f < 0
    · exact .inl (by simpa using c1)
    · by_cases c2 : n < 0
      · exact .inr (.inl ⟨by simpa using c1, by simpa using c2⟩)
      · exact .inr (.inr ⟨by simpa using c1, by simpa using c2, by simp; omega, wrapIn _ (by omega)⟩)
  clear k
  rcases hk with k1 | ⟨k1, k2⟩ | ⟨k1, k2, k3, k4⟩
  all_goals
    go_enter Tryz.func73, Tryz.ntmps73
    go_wp2_with (first
      | (go_at_call 18; refine hm.mono ?_; rintro e W1 ⟨rfl, h1⟩; have I1 := I0.below h1; obtain ⟨p0, p1, _, _, _, _⟩ := I1)
      | (go_at_call 51; refine (hi _ (I0.below h1).s (I0.below h1).a).mono ?_; rintro e W2 ⟨rfl, h2⟩; have I2 := (I0.below h1).below h2; obtain ⟨q0, q1, pr1, _, _, pb⟩ := I2; obtain ⟨kk0, kk1, z0, z1⟩ := box2 pr1))
    (try simp only [Exit.inBlock, Exit.then])
    refine bodyPost_ret (v := .tuple #[.agg #[.slice none 0 0, .slice none 0 0], .int .i64 13]) (by rw [results_cell_tmp rfl]; go_simp) rfl ?_
    exact ⟨rfl, by first | exact pb | exact below_set2 _ _ _ _ pb (by omega) (Nat.le_refl _)⟩

theorem part_any (so ao : Option Addr) (sn sc an ac : Nat) (sh at' : List Int) (f n : Int) (w : World) (h : Rd w so sn sh) (hs : Sl so sn sc) (g : Rd w ao an at') (gs : Sl ao an ac) (f1 : -9223372036854775808 ≤ f) (f2 : f ≤ 9223372036854775807) (n1 : -9223372036854775808 ≤ n) (n2 : n ≤ 9223372036854775807) :
    Calls Tryz.prog 73 #[.agg #[.slice so sn sc, .slice ao an ac], .int .i64 f, .int .i64 n] w fun e w' => ∃ o1 n1 c1 o2 n2 c2, e = .returned (.tuple #[.agg #[.slice o1 n1 c1, .slice o2 n2 c2], .int .i64 (prtE sh at' f n)]) ∧ Ft 3 w' w.heap.size o1 n1 c1 (prtS sh at' f n) ∧ Ft 2 w' w.heap.size o2 n2 c2 (prtA sh at' f n) ∧ Below w.heap.size w w' := by
  by_cases h0 : mayA sh at' = 0
  · by_cases k : f < 0 ∨ n < 0 ∨ tal sh - f < n
    · obtain ⟨e1, e2, e3⟩ := prt_out h0 k
      rw [e1, e2, e3]
      exact (part_out so ao sn sc an ac sh at' f n w h g h0 f1 f2 n1 n2 k).mono fun e w' ⟨h1, h2⟩ => ⟨none, 0, 0, none, 0, 0, h1, Ft.nil _ _ _, Ft.nil _ _ _, h2⟩
    · obtain ⟨fr, rfl⟩ : ∃ fr : Nat, f = fr := ⟨f.toNat, by omega⟩
      obtain ⟨m, rfl⟩ : ∃ m : Nat, n = m := ⟨n.toNat, by omega⟩
      obtain ⟨e1, e2, e3⟩ := prt_in (fr := fr) (m := m) h0 (by omega)
      rw [e1, e2, e3]
      exact part_ok so ao sn sc an ac sh at' fr m w h hs g gs h0 (by omega)
  · obtain ⟨e1, e2, e3⟩ := prt_may (f := f) (n := n) h0
    rw [e1, e2, e3]
    exact (part_may so ao sn sc an ac sh at' f n w h g h0).mono fun e w' ⟨h1, h2⟩ => ⟨none, 0, 0, none, 0, 0, h1, Ft.nil _ _ _, Ft.nil _ _ _, h2⟩
end Go.Proofs.YtjpdjnkmipfmbaaGreat
