
/- Package seek at any op: what is refused; the rows that lack a valence. -/

import Derived.Test.YtmepcenbaohcoaaGreatYP

import Derived.Test.YtmepcenbaohcoaaGreatYU

import Derived.Test.YtmepcenbaohcoaaGreatYY

namespace Go.Proofs.YtmepcenbaohcoaaGreat

open Go.RowKit

set_option linter.unusedVariables false

/-- A 1 for each item that is met first. -/
def ifL (fs : List Int) (n : Nat) : List Int := (List.range n).map fun k : Nat => if ((k : Int) == nth fs k) = true then 1 else 0
theorem ifL_len (fs : List Int) (n : Nat) : (ifL fs n).length = n := by simp [ifL]
theorem ifL_nth {fs : List Int} {n k : Nat} (h : k < n) : nth (ifL fs n) k = if ((k : Int) == nth fs k) = true then 1 else 0 := by
  rw [nth_lt (by rw [ifL_len]; exact h)]
  simp [ifL]

set_option maxHeartbeats 2000000 in
set_option maxRecDepth 20000 in
theorem isFirst_any (so ao : Option Addr) (sn sc an ac : Nat) (sh at' : List Int) (w : World) (h : Rd w so sn sh) (hs : Sl so sn sc) (g : Rd w ao an at') (gs : Sl ao an ac) (h0 : mayA sh at' = 0) :
    Calls Tryz.prog 42 #[.agg #[.slice so sn sc, .slice ao an ac]] w fun e w' => AnsQ w (fun S A => S = [(itN sh : Int)] ∧ A = ifL (fsL (itX sh at') (itN sh)) (itN sh)) 0 e w' := by
  have U0 := un_startQ w so sn sc ao an ac
  have hfi := finderOf_any so ao sn sc an ac sh at' _ (h.below U0.bel (Nat.le_refl _)) hs (g.below U0.bel (Nat.le_refl _)) gs h0
  obtain ⟨q0, q1, _, _⟩ := box2 U0.x
  generalize itN sh = n at *
  generalize itX sh at' = xs at *
  obtain ⟨fs, hfx⟩ : ∃ fs, fsL xs n = fs := ⟨_, rfl⟩
  rw [hfx]
  have HFX : Hid (fsL xs n = fs) := hfx
  clear hfx
  go_enter Tryz.func42, Tryz.ntmps42
  have hmk := fun (X : World) (hn : n ≤ 4096) => run_make_row' (P := Tryz.prog) 26 2 (.int .i64 0) 8 Tryz.underlying26 infoLQ rfl .i64 .i64 n (by omega) (by omega) X
  go_upto_region 2 with (first
    | (go_at_call 58; (with_reducible refine hfi.mono ?_); rintro e w1 ⟨io, po, pc, rfl, Fn, lb⟩; have U1 := U0.below lb U0.sz)
    | (go_at_call 67; (with_reducible refine (firsts_any _ _ _ _ _ _ w1 Fn).mono ?_); rintro e w2 ⟨g2, rfl, f2, b2⟩; have U2 := U1.below b2 U1.sz))
  have hn4 := Fn.n4
  have hmk2 := fun X => hmk X hn4
  have R0 := Rl.made w2 n (by omega)
  have s2 := U2.sz
  rw [HFX.out] at f2
  clear hfi hmk lb Fn U1 b2 q0 q1
  go_wp2
  clear hmk2
  go_loopw [16] (fun i V => ∃ (k : Nat) (zs : List Int), k ≤ n ∧ i = .int .i64 (k : Nat) ∧ Rl w2.heap.size n w2 V zs ∧ ∀ j, j < k → nth zs j = nth (ifL fs n) j) (fun i _ => n - (intOf i).toNat)
  case atStart => exact ⟨0, _, Nat.zero_le _, rfl, R0, fun j hj => by omega⟩
  case round =>
    obtain ⟨k, zs, hk, rfl, R, Z⟩ := hrel
    clear R0
    by_cases hlt : k < n
    · have t1 : decide ((k : Int) < (n : Int)) = true := by simp; omega
      have bk : (k : Int) < (n : Int) := by omega
      have wk := wrY (z := (k : Int) + 1) (by omega) (by omega)
      have RV := f2.rd.below R.bel (Nat.le_refl _)
      obtain ⟨b, off, eb, hb, hc⟩ := RV.cells (by omega)
      cases eb
      have cc := hc k hlt
      rw [Nat.zero_add] at cc
      have HV : Hid (nth (ifL fs n) k = if ((k : Int) == nth fs k) = true then 1 else 0) := ifL_nth hlt
      generalize nth fs k = x at *
      have ht := fun V => truth_any ((k : Int) == x) V
      have hbd : -9223372036854775808 ≤ (if ((k : Int) == x) = true then (1 : Int) else 0) ∧ (if ((k : Int) == x) = true then (1 : Int) else 0) ≤ 9223372036854775807 := by split <;> omega
      obtain ⟨u, hu⟩ : ∃ u : Int, (if ((k : Int) == x) = true then (1 : Int) else 0) = u := ⟨_, rfl⟩
      rw [hu] at hbd
      have HU : Hid ((if ((k : Int) == x) = true then (1 : Int) else 0) = u) := hu
      rw [hu] at ht
      obtain ⟨c1, f1⟩ := R.slot hlt
      have R6 := R.set hlt u hbd.1 hbd.2
      have HZ : Hid (∀ j, j < k → nth zs j = nth (ifL fs n) j) := Z
      clear hc hu Z
      go_wp2_with (first
        | (go_at_call 63; (with_reducible refine (ht _).mono ?_); rintro e w3 ⟨rfl, hw3⟩; rw [hw3]; clear hw3 w3))
      go_roundw
      case rel => exact ⟨k + 1, _, by omega, by go_num, R6, fun j hj => by
        rw [nth_setY (by rw [R.len]; exact hlt)]
        split
        · rename_i e; rw [e, HV.out, HU.out]
        · exact HZ.out j (by omega)⟩
      case measure => simp [intOf]; omega
    · obtain rfl : k = n := by omega
      have t1 : decide ((k : Int) < (k : Int)) = false := by simp
      have e : zs = ifL fs k := ext_nth (by rw [R.len, ifL_len]) (fun j hj => by rw [R.len] at hj; exact Z j hj)
      subst e
      have kb := box_below wr (.cells #[.int .i64 (k : Int)] 3)
      have rl := R.lt
      have U3 := (U2.below R.bel s2).below kb (by omega)
      obtain ⟨r0, r1, r2, r3⟩ := box2 U3.r
      have F1 := ft_new 3 wr [(k : Int)] (by simp) (fun j hj => by rw [show j = 0 by simp at hj; omega, show nth [(k : Int)] 0 = (k : Int) from rfl]; omega)
      have F2 := (R.below kb).row
      clear Z
      go_wp2
      (try simp only [Exit.inBlock, Exit.then])
      refine bodyPost_ret (v := .tuple #[.agg #[.slice (some ⟨wr.heap.size, 0, none⟩) 1 1, .slice (some ⟨w2.heap.size, 0, none⟩) k k], .int .i64 0]) (by rw [results_cell_tmp rfl]; go_simp) rfl ?_
      exact ⟨_, _, _, _, _, _, _, _, rfl, (ft_setQ F1 (by omega) _ _).mono (by omega), (ft_setQ F2 (by omega) _ _).mono (by omega), ⟨rfl, rfl⟩, below_set2 _ _ _ _ U3.bel (by omega) (Nat.le_refl _)⟩

/-- The table of classes: which class each item is of. -/
def ckL (nb fs : List Int) (n : Nat) : List Int := (List.range (nb.length * n)).map fun q => if (nth nb (q / n) == nth fs (q % n)) = true then 1 else 0
theorem ckL_len (nb fs : List Int) (n : Nat) : (ckL nb fs n).length = nb.length * n := by simp [ckL]
theorem ckL_nth {nb fs : List Int} {n i j : Nat} (hi : i < nb.length) (hj : j < n) : nth (ckL nb fs n) (i * n + j) = if (nth nb i == nth fs j) = true then 1 else 0 := by
  have hq : i * n + j < nb.length * n := by
    have := Nat.mul_le_mul_right n (show i + 1 ≤ nb.length by omega)
    rw [Nat.succ_mul] at this
    omega
  have e1 : (i * n + j) / n = i := by rw [Nat.mul_comm, Nat.mul_add_div (by omega), Nat.div_eq_of_lt hj, Nat.add_zero]
  have e2 : (i * n + j) % n = j := by rw [Nat.mul_comm, Nat.mul_add_mod, Nat.mod_eq_of_lt hj]
  rw [nth_lt (by rw [ckL_len]; exact hq)]
  unfold ckL
  rw [List.getElem_map, List.getElem_range, e1, e2]
/-- Between two rounds of classify. -/
structure Ek (U V : World) (zb : Nat) (o1 : Option Addr) (n1 c1 : Nat) (sh1 : List Int) (o2 : Option Addr) (n2 c2 : Nat) (zs : List Int) : Prop where
  bel : Below U.heap.size U V
  out : V.heap[zb]? = some (.cells #[.slice o1 n1 c1, .slice o2 n2 c2] 30 (0, 0))
  f1 : Ft 3 V U.heap.size o1 n1 c1 sh1
  f2 : Ft 2 V U.heap.size o2 n2 c2 zs
theorem Ek.drew {U V : World} {zb : Nat} {o1 : Option Addr} {n1 c1 : Nat} {sh1 : List Int} {o2 : Option Addr} {n2 c2 : Nat} {zs : List Int} (h : Ek U V zb o1 n1 c1 sh1 o2 n2 c2 zs) : Ek U V.drew zb o1 n1 c1 sh1 o2 n2 c2 zs := by
  have b : Below V.heap.size V V.drew := (Below.refl _ _).drew
  exact ⟨h.bel.drew, (b.block _ (Array.getElem?_eq_some_iff.1 h.out).1).trans h.out, h.f1.below b (Nat.le_refl _), h.f2.below b (Nat.le_refl _)⟩
theorem Ek.set {U V : World} {zb : Nat} {o1 : Option Addr} {n1 c1 : Nat} {sh1 : List Int} {b2 n2 c2 : Nat} {zs : List Int} (h : Ek U V zb o1 n1 c1 sh1 (some ⟨b2, 0, none⟩) n2 c2 zs) {k : Nat} (hk : k < n2) (u : Int) (h1 : -9223372036854775808 ≤ u) (h2 : u ≤ 9223372036854775807) :
    Ek U (V.setCell ⟨b2, k, none⟩ (.int .i64 u)) zb o1 n1 c1 sh1 (some ⟨b2, 0, none⟩) n2 c2 (zs.set k u) := by
  have kk := set1 V b2 k (.int .i64 u)
  have hb2 := (h.f2.at b2 0 rfl).1
  have f1 := h.f1.keep1 kk (fun b off e e2 => by
    injection e2 with e2
    subst e2
    rcases h.f2.own.2 with ⟨e4, h0⟩ | ⟨g', c', cur', e4, hB2, hg2, r⟩
    · cases e4
    · injection e4 with e5; cases e5
      exact h.f1.nebox hg2 ty_ne3 _ _ e rfl)
  exact ⟨h.bel.setCell (p := ⟨b2, k, none⟩) hb2 _, (kk.block _ (Array.getElem?_eq_some_iff.1 h.out).1 (fun e => h.f2.nebox h.out ty_ne2 b2 0 rfl e.symm)).trans h.out, f1, h.f2.setY k hk u h1 h2⟩
theorem Ek.slot {U V : World} {zb : Nat} {o1 : Option Addr} {n1 c1 : Nat} {sh1 : List Int} {o2 : Option Addr} {n2 c2 : Nat} {zs : List Int} (h : Ek U V zb o1 n1 c1 sh1 o2 n2 c2 zs) {k : Nat} (hk : k < n2) : ∃ b2, o2 = some ⟨b2, 0, none⟩ ∧ (∃ v, V.cell? ⟨b2, k, none⟩ = some v) ∧ V.frozen? ⟨b2, k, none⟩ = false := by
  rcases h.f2.own.2 with ⟨e1, h0⟩ | ⟨g', c', cur, e1, hB2, hg, r⟩
  · omega
  · injection e1 with e2
    obtain ⟨b, off, e, hb, hc⟩ := h.f2.rd.cells (by omega)
    rw [e2] at e
    cases e
    have c := hc k hk
    rw [Nat.zero_add] at c
    exact ⟨g', e2, ⟨_, c⟩, frozen_of_row V g' k _ _ hg⟩

end Go.Proofs.YtmepcenbaohcoaaGreat

namespace Go.Proofs.YtmepcenbaohcoaaGreat

open Go.RowKit

set_option linter.unusedVariables false

set_option maxHeartbeats 2000000 in
theorem rowOf_11 (w : World) :
    Calls Tryz.prog 15 #[.int .i64 11] w fun e w' => e = .returned (.tuple #[.agg #[.int .i64 11, .func (.func 42) #[] #[], .nilFunc], .bool true]) ∧ Below w.heap.size w w' := by
  have hd := rows_any (w.alloc (.cells #[.int .i64 0, .nilFunc, .nilFunc] 47))
  have T := seekTab (allocNew (w.alloc (.cells #[.int .i64 0, .nilFunc, .nilFunc] 47)) (.cells seekRow.toArray 47))
  have R := ((box_below (w.alloc (.cells #[.int .i64 0, .nilFunc, .nilFunc] 47)) (.cells seekRow.toArray 47)).block w.heap.size (by simp)).trans (allocNew w (.cells #[.int .i64 0, .nilFunc, .nilFunc] 47))
  have B0 : Below w.heap.size w ((w.alloc (.cells #[.int .i64 0, .nilFunc, .nilFunc] 47)).alloc (.cells seekRow.toArray 47)) := (box_below w _).trans ((box_below _ _).mono (by simp))
  simp only [World.size_alloc] at T hd
  generalize hW2 : (w.alloc (.cells #[.int .i64 0, .nilFunc, .nilFunc] 47)).alloc (.cells seekRow.toArray 47) = W2 at *
  have hs2 : W2.heap.size = w.heap.size + 2 := by rw [← hW2]; simp
  clear hW2
  go_enter Tryz.func15, Tryz.ntmps15
  go_wp2_with (go_at_call 21; (with_reducible refine hd.mono ?_); rintro e w' ⟨rfl, hw⟩; rw [hw]; clear hw w' hd)
  go_loopw [8] (fun i V => ∃ j : Nat, j ≤ 4 ∧ i = .int .i64 (j : Nat) ∧ Below W2.heap.size W2 V) (fun i _ => 10 - (intOf i).toNat)
  case atStart => exact ⟨0, Nat.zero_le _, rfl, Below.refl _ _⟩
  case round =>
    obtain ⟨j, hj, rfl, BV⟩ := hrel
    obtain ⟨r0, r1, r2⟩ := T j (by omega)
    have lt := World.block_lt_of_cell? W2 _ r0
    have y0 := (BV.cell (p := ⟨w.heap.size + 1, j * 3, none⟩) lt).trans r0; have y1 := (BV.cell (p := ⟨w.heap.size + 1, j * 3 + 1, none⟩) lt).trans r1; have y2 := (BV.cell (p := ⟨w.heap.size + 1, j * 3 + 2, none⟩) lt).trans r2
    have bj : (j : Int) < 10 := by omega
    have tj : decide ((j : Int) < 10) = true := by simp; omega
    by_cases hlt : j < 4
    · have hne : (sOp j == 11) = false := by
        match j, hlt with
        | 0, _ => rfl
        | 1, _ => rfl
        | 2, _ => rfl
        | 3, _ => rfl
      generalize sOp j = OJ at *
      rcases sRow_kinds j (by omega) with ⟨e1, G, e2⟩ | ⟨e2, F, e1⟩ | ⟨F, G, e1, e2⟩
      all_goals
        rw [e1] at y1
        rw [e2] at y2
        clear e1 e2
        go_wp2
        go_roundw
        case rel => exact ⟨j + 1, by omega, by go_num, BV.trans ((box_below wr _).mono BV.size)⟩
        case measure => simp [intOf]; omega
    · obtain rfl : j = 4 := by omega
      rw [show sOp 4 = 11 from rfl] at y0
      rw [show sM 4 = .func (.func 42) #[] #[] from rfl] at y1
      rw [show sD 4 = .nilFunc from rfl] at y2
      have BV2 := BV.trans ((box_below wr (.cells #[.int .i64 11, .func (.func 42) #[] #[], .nilFunc] 47)).mono BV.size)
      have RV := (BV2.block w.heap.size (by omega)).trans R
      obtain ⟨q0, q1, q2, z0, z1, z2⟩ := bx3Q RV
      have BB := B0.trans (BV2.mono (by omega))
      clear T R
      go_wp2
      (try simp only [Exit.inBlock, Exit.then])
      refine bodyPost_ret (v := .tuple #[.agg #[.int .i64 11, .func (.func 42) #[] #[], .nilFunc], .bool true]) (by rw [results_cell_tmp rfl]; go_simp) rfl ?_
      exact ⟨rfl, below_set3Q _ _ _ _ _ _ BB (Nat.le_refl _)⟩

set_option maxHeartbeats 2000000 in
theorem rowOf_10 (w : World) :
    Calls Tryz.prog 15 #[.int .i64 10] w fun e w' => e = .returned (.tuple #[.agg #[.int .i64 10, .func (.func 43) #[] #[], .nilFunc], .bool true]) ∧ Below w.heap.size w w' := by
  have hd := rows_any (w.alloc (.cells #[.int .i64 0, .nilFunc, .nilFunc] 47))
  have T := seekTab (allocNew (w.alloc (.cells #[.int .i64 0, .nilFunc, .nilFunc] 47)) (.cells seekRow.toArray 47))
  have R := ((box_below (w.alloc (.cells #[.int .i64 0, .nilFunc, .nilFunc] 47)) (.cells seekRow.toArray 47)).block w.heap.size (by simp)).trans (allocNew w (.cells #[.int .i64 0, .nilFunc, .nilFunc] 47))
  have B0 : Below w.heap.size w ((w.alloc (.cells #[.int .i64 0, .nilFunc, .nilFunc] 47)).alloc (.cells seekRow.toArray 47)) := (box_below w _).trans ((box_below _ _).mono (by simp))
  simp only [World.size_alloc] at T hd
  generalize hW2 : (w.alloc (.cells #[.int .i64 0, .nilFunc, .nilFunc] 47)).alloc (.cells seekRow.toArray 47) = W2 at *
  have hs2 : W2.heap.size = w.heap.size + 2 := by rw [← hW2]; simp
  clear hW2
  go_enter Tryz.func15, Tryz.ntmps15
  go_wp2_with (go_at_call 21; (with_reducible refine hd.mono ?_); rintro e w' ⟨rfl, hw⟩; rw [hw]; clear hw w' hd)
  go_loopw [8] (fun i V => ∃ j : Nat, j ≤ 5 ∧ i = .int .i64 (j : Nat) ∧ Below W2.heap.size W2 V) (fun i _ => 10 - (intOf i).toNat)
  case atStart => exact ⟨0, Nat.zero_le _, rfl, Below.refl _ _⟩
  case round =>
    obtain ⟨j, hj, rfl, BV⟩ := hrel
    obtain ⟨r0, r1, r2⟩ := T j (by omega)
    have lt := World.block_lt_of_cell? W2 _ r0
    have y0 := (BV.cell (p := ⟨w.heap.size + 1, j * 3, none⟩) lt).trans r0; have y1 := (BV.cell (p := ⟨w.heap.size + 1, j * 3 + 1, none⟩) lt).trans r1; have y2 := (BV.cell (p := ⟨w.heap.size + 1, j * 3 + 2, none⟩) lt).trans r2
    have bj : (j : Int) < 10 := by omega
    have tj : decide ((j : Int) < 10) = true := by simp; omega
    by_cases hlt : j < 5
    · have hne : (sOp j == 10) = false := by
        match j, hlt with
        | 0, _ => rfl
        | 1, _ => rfl
        | 2, _ => rfl
        | 3, _ => rfl
        | 4, _ => rfl
      generalize sOp j = OJ at *
      rcases sRow_kinds j (by omega) with ⟨e1, G, e2⟩ | ⟨e2, F, e1⟩ | ⟨F, G, e1, e2⟩
      all_goals
        rw [e1] at y1
        rw [e2] at y2
        clear e1 e2
        go_wp2
        go_roundw
        case rel => exact ⟨j + 1, by omega, by go_num, BV.trans ((box_below wr _).mono BV.size)⟩
        case measure => simp [intOf]; omega
    · obtain rfl : j = 5 := by omega
      rw [show sOp 5 = 10 from rfl] at y0
      rw [show sM 5 = .func (.func 43) #[] #[] from rfl] at y1
      rw [show sD 5 = .nilFunc from rfl] at y2
      have BV2 := BV.trans ((box_below wr (.cells #[.int .i64 10, .func (.func 43) #[] #[], .nilFunc] 47)).mono BV.size)
      have RV := (BV2.block w.heap.size (by omega)).trans R
      obtain ⟨q0, q1, q2, z0, z1, z2⟩ := bx3Q RV
      have BB := B0.trans (BV2.mono (by omega))
      clear T R
      go_wp2
      (try simp only [Exit.inBlock, Exit.then])
      refine bodyPost_ret (v := .tuple #[.agg #[.int .i64 10, .func (.func 43) #[] #[], .nilFunc], .bool true]) (by rw [results_cell_tmp rfl]; go_simp) rfl ?_
      exact ⟨rfl, below_set3Q _ _ _ _ _ _ BB (Nat.le_refl _)⟩

set_option maxHeartbeats 2000000 in
theorem monadS_ne (so ao : Option Addr) (sn sc an ac : Nat) (sy ay : List Int) (Φ : List Int → List Int → Prop) (E : Int) (w : World) (hsy : Rd w so sn sy) (hay : Rd w ao an ay) (my : mayA sy ay = 0)
    (hc : ∀ V, Below w.heap.size w V → Calls Tryz.prog 42 #[.agg #[.slice so sn sc, .slice ao an ac]] V fun e w' => AnsQ V Φ E e w') :
    Calls Tryz.prog 12 #[.int .i64 11, .agg #[.slice so sn sc, .slice ao an ac]] w fun e w' => AnsQ w Φ E e w' := by
  have U0 := un_startQ w so sn sc ao an ac
  have s0 := U0.sz
  have cM1 := mayA_any so ao sn sc an ac sy ay _ (hsy.below U0.bel (Nat.le_refl _)) (hay.below U0.bel (Nat.le_refl _))
  rw [my] at cM1
  have cD := fun V => rowOf_11 V
  obtain ⟨x0, x1, _, _⟩ := box2 U0.x
  clear my
  have hnil := fun V => nM_eqF V (.func 42) #[] #[]
  go_enter Tryz.func12, Tryz.ntmps12
  go_wp2_with (first
    | (go_at_call 20; (with_reducible refine cM1.mono ?_); rintro e w1 ⟨rfl, k1⟩; have U1 := U0.below k1 s0; have s1 := U1.sz)
    | (go_at_call 15; (with_reducible refine (cD w1).mono ?_); rintro e w3 ⟨rfl, k3⟩; have U3 := U1.below k3 s1; have s3 := U3.sz; have U4 := U3.below (box_below w3 (.cells #[.int .i64 11, .func (.func 42) #[] #[], .nilFunc] 47)) s3; obtain ⟨v0, v1, _, _⟩ := box2 U4.x)
    | (go_at_call 42; (with_reducible refine (hc _ U4.bel).mono ?_); rintro e w5 ⟨o1, n1, c1, o2, n2, c2, S, A, rfl, f1, f2, hΦ, k5⟩; have s4 := U4.sz; have U5 := U4.below k5 s4; obtain ⟨z0, z1, z2, z3⟩ := box2 U5.r))
  (try simp only [Exit.inBlock, Exit.then])
  refine bodyPost_ret (v := .tuple #[.agg #[.slice o1 n1 c1, .slice o2 n2 c2], .int .i64 E]) (by rw [results_cell_tmp rfl]; go_simp) rfl ?_
  exact ⟨o1, n1, c1, o2, n2, c2, S, A, rfl, (ft_setQ f1 (by omega) _ _).mono (by omega), (ft_setQ f2 (by omega) _ _).mono (by omega), hΦ, below_set2 _ _ _ _ U5.bel (by omega) (Nat.le_refl _)⟩

set_option maxHeartbeats 2000000 in
theorem monadS_eq (so ao : Option Addr) (sn sc an ac : Nat) (sy ay : List Int) (Φ : List Int → List Int → Prop) (E : Int) (w : World) (hsy : Rd w so sn sy) (hay : Rd w ao an ay) (my : mayA sy ay = 0)
    (hc : ∀ V, Below w.heap.size w V → Calls Tryz.prog 43 #[.agg #[.slice so sn sc, .slice ao an ac]] V fun e w' => AnsQ V Φ E e w') :
    Calls Tryz.prog 12 #[.int .i64 10, .agg #[.slice so sn sc, .slice ao an ac]] w fun e w' => AnsQ w Φ E e w' := by
  have U0 := un_startQ w so sn sc ao an ac
  have s0 := U0.sz
  have cM1 := mayA_any so ao sn sc an ac sy ay _ (hsy.below U0.bel (Nat.le_refl _)) (hay.below U0.bel (Nat.le_refl _))
  rw [my] at cM1
  have cD := fun V => rowOf_10 V
  obtain ⟨x0, x1, _, _⟩ := box2 U0.x
  clear my
  have hnil := fun V => nM_eqF V (.func 43) #[] #[]
  go_enter Tryz.func12, Tryz.ntmps12
  go_wp2_with (first
    | (go_at_call 20; (with_reducible refine cM1.mono ?_); rintro e w1 ⟨rfl, k1⟩; have U1 := U0.below k1 s0; have s1 := U1.sz)
    | (go_at_call 15; (with_reducible refine (cD w1).mono ?_); rintro e w3 ⟨rfl, k3⟩; have U3 := U1.below k3 s1; have s3 := U3.sz; have U4 := U3.below (box_below w3 (.cells #[.int .i64 10, .func (.func 43) #[] #[], .nilFunc] 47)) s3; obtain ⟨v0, v1, _, _⟩ := box2 U4.x)
    | (go_at_call 43; (with_reducible refine (hc _ U4.bel).mono ?_); rintro e w5 ⟨o1, n1, c1, o2, n2, c2, S, A, rfl, f1, f2, hΦ, k5⟩; have s4 := U4.sz; have U5 := U4.below k5 s4; obtain ⟨z0, z1, z2, z3⟩ := box2 U5.r))
  (try simp only [Exit.inBlock, Exit.then])
  refine bodyPost_ret (v := .tuple #[.agg #[.slice o1 n1 c1, .slice o2 n2 c2], .int .i64 E]) (by rw [results_cell_tmp rfl]; go_simp) rfl ?_
  exact ⟨o1, n1, c1, o2, n2, c2, S, A, rfl, (ft_setQ f1 (by omega) _ _).mono (by omega), (ft_setQ f2 (by omega) _ _).mono (by omega), hΦ, below_set2 _ _ _ _ U5.bel (by omega) (Nat.le_refl _)⟩
end Go.Proofs.YtmepcenbaohcoaaGreat

namespace Go.Proofs.YtmepcenbaohcoaaGreat

set_option linter.unusedVariables false

/-- Two orders of the same places are one. -/
theorem Pls.uniq {c : Int → Int → Int} {n : Nat} {ps qs : List Int} (hc : Cmp3 n c) (h : Pls c n ps) (g : Pls c n qs) : ps = qs := by
  have hl := h.len
  have gl := g.len
  have key : ∀ k, ∀ i, i < k → i < n → nth ps i = nth qs i := by
    intro k
    induction k with
    | zero => intro i hi; omega
    | succ k ih =>
      intro i hi hn
      rcases Nat.lt_or_ge i k with hk | hk
      · exact ih i hk hn
      · obtain rfl : i = k := by omega
        have a := h.inn i (by omega)
        have b := g.inn i (by omega)
        by_cases e : nth ps i = nth qs i
        · exact e
        · exfalso
          obtain ⟨j, hj, ej⟩ := g.all hc (q := (nth ps i).toNat) (by omega)
          obtain ⟨l, hl2, el⟩ := h.all hc (q := (nth qs i).toNat) (by omega)
          have ej' : nth qs j = nth ps i := by omega
          have el' : nth ps l = nth qs i := by omega
          have j1 : i < j := by
            rcases Nat.lt_trichotomy i j with x | x | x
            · exact x
            · subst x; exact absurd ej'.symm e
            · have := ih j x (by omega)
              have s := h.so j i (Nat.zero_le _) x hn
              rw [this, ej'] at s
              exact absurd (lx_irr hc a s) id
          have l1 : i < l := by
            rcases Nat.lt_trichotomy i l with x | x | x
            · exact x
            · subst x; exact absurd el' e
            · have := ih l x (by omega)
              have s := g.so l i (Nat.zero_le _) x hn
              rw [← this, el'] at s
              exact absurd (lx_irr hc b s) id
          have s1 := g.so i j (Nat.zero_le _) j1 hj
          have s2 := h.so i l (Nat.zero_le _) l1 hl2
          rw [ej'] at s1
          rw [el'] at s2
          exact lx_irr hc a (lx_trans hc a b a s2 s1)
  exact ext_nth (by omega) (fun k hk => key (k + 1) k (by omega) (by omega))
theorem ahd_drop (sh : List Int) : sh.drop (ahd sh) = sh.drop 1 := by
  unfold ahd
  cases sh with
  | nil => rfl
  | cons a r => rw [show min 1 (a :: r).length = 1 by simp]
theorem ahd_pr {sh : List Int} (h : mayF sh = 0) : (pr (sh.take (ahd sh))).toNat = itN sh := rfl
/-- What an item is, by arr's words and by seek's. -/
theorem itX_itm {sh at' : List Int} (h : mayA sh at' = 0) {k : Nat} (hk : k < itN sh) : itmE sh at' k = 0 ∧ itmS sh at' k = (itX sh at' k).1 ∧ itmA sh at' k = (itX sh at' k).2 := by
  have hf := (mayA_zero h).1
  have ht := itN_tal hf
  have e : itmE sh at' k = 0 := itmE_in h (by omega)
  obtain ⟨e1, e2⟩ := itm_yes e
  refine ⟨e, by rw [e1]; exact (ahd_drop sh).symm, ?_⟩
  rw [e2]
  have z : itmZ sh at' = cuz sh at' (ahd sh) := by
    unfold itmZ cuz
    rw [ahd_pr hf, ← ht, Int.toNat_natCast]
  have j : itmJ sh k = k := by unfold itmJ; rw [if_neg (by omega)]; simp
  rw [z, j]
  rfl
end Go.Proofs.YtmepcenbaohcoaaGreat

namespace Go.Proofs.YtmepcenbaohcoaaGreat

open Go.RowKit

set_option linter.unusedVariables false

set_option maxHeartbeats 2000000 in
theorem rowOf_no (op : Int) (hop : ∀ j, j < 10 → (sOp j == op) = false) (w : World) :
    Calls Tryz.prog 15 #[.int .i64 op] w fun e w' => e = .returned (.tuple #[.agg #[.int .i64 0, .nilFunc, .nilFunc], .bool false]) ∧ Below w.heap.size w w' := by
  have hd := rows_any (w.alloc (.cells #[.int .i64 0, .nilFunc, .nilFunc] 47))
  have T := seekTab (allocNew (w.alloc (.cells #[.int .i64 0, .nilFunc, .nilFunc] 47)) (.cells seekRow.toArray 47))
  have R := ((box_below (w.alloc (.cells #[.int .i64 0, .nilFunc, .nilFunc] 47)) (.cells seekRow.toArray 47)).block w.heap.size (by simp)).trans (allocNew w (.cells #[.int .i64 0, .nilFunc, .nilFunc] 47))
  have B0 : Below w.heap.size w ((w.alloc (.cells #[.int .i64 0, .nilFunc, .nilFunc] 47)).alloc (.cells seekRow.toArray 47)) := (box_below w _).trans ((box_below _ _).mono (by simp))
  simp only [World.size_alloc] at T hd
  generalize hW2 : (w.alloc (.cells #[.int .i64 0, .nilFunc, .nilFunc] 47)).alloc (.cells seekRow.toArray 47) = W2 at *
  have hs2 : W2.heap.size = w.heap.size + 2 := by rw [← hW2]; simp
  clear hW2
  go_enter Tryz.func15, Tryz.ntmps15
  go_wp2_with (go_at_call 21; (with_reducible refine hd.mono ?_); rintro e w' ⟨rfl, hw⟩; rw [hw]; clear hw w' hd)
  go_loopw [8] (fun i V => ∃ j : Nat, j ≤ 10 ∧ i = .int .i64 (j : Nat) ∧ Below W2.heap.size W2 V) (fun i _ => 10 - (intOf i).toNat)
  case atStart => exact ⟨0, Nat.zero_le _, rfl, Below.refl _ _⟩
  case round =>
    obtain ⟨j, hj, rfl, BV⟩ := hrel
    by_cases hlt : j < 10
    · obtain ⟨r0, r1, r2⟩ := T j (by omega)
      have lt := World.block_lt_of_cell? W2 _ r0
      have y0 := (BV.cell (p := ⟨w.heap.size + 1, j * 3, none⟩) lt).trans r0
      have y1 := (BV.cell (p := ⟨w.heap.size + 1, j * 3 + 1, none⟩) lt).trans r1
      have y2 := (BV.cell (p := ⟨w.heap.size + 1, j * 3 + 2, none⟩) lt).trans r2
      have bj : (j : Int) < 10 := by omega
      have tj : decide ((j : Int) < 10) = true := by simp; omega
      have hne := hop j hlt
      clear hop
      generalize sOp j = OJ at *
      rcases sRow_kinds j (by omega) with ⟨e1, G, e2⟩ | ⟨e2, F, e1⟩ | ⟨F, G, e1, e2⟩
      all_goals
        rw [e1] at y1
        rw [e2] at y2
        clear e1 e2
        go_wp2
        go_roundw
        case rel => exact ⟨j + 1, by omega, by go_num, BV.trans ((box_below wr _).mono BV.size)⟩
        case measure => simp [intOf]; omega
    · obtain rfl : j = 10 := by omega
      have tj : decide (((10 : Nat) : Int) < 10) = false := by decide
      have RV := (BV.block w.heap.size (by omega)).trans R
      obtain ⟨q0, q1, q2, z0, z1, z2⟩ := bx3Q RV
      have BB := B0.trans (BV.mono (by omega))
      clear T R hop
      go_wp2
      (try simp only [Exit.inBlock, Exit.then])
      refine bodyPost_ret (v := .tuple #[.agg #[.int .i64 0, .nilFunc, .nilFunc], .bool false]) (by rw [results_cell_tmp rfl]; go_simp) rfl ?_
      first | exact ⟨rfl, BB⟩ | exact ⟨rfl, below_set3Q _ _ _ _ _ _ BB (Nat.le_refl _)⟩

/-- Something is answered that reads as z. -/
def AnsE (w : World) (z : List Int × List Int) (e : Ending) (w' : World) : Prop := ∃ E, AnsQ w (fun S A => S = z.1 ∧ A = z.2) E e w'
end Go.Proofs.YtmepcenbaohcoaaGreat
