
/- Contracts of package seek: PNe and PEq. -/

import Derived.Test.YtlncjmeabonpfaaYP

namespace Go.Proofs.Ytlncjmeabonpfaa

open Go.RowKit

set_option linter.unusedVariables false

/-- A 1 for each item that is met first. -/
def ifL (fs : List Int) (n : Nat) : List Int := (List.range n).map fun k : Nat => if ((k : Int) == nth fs k) = true then 1 else 0
theorem ifL_len (fs : List Int) (n : Nat) : (ifL fs n).length = n := by simp [ifL]
theorem ifL_nth {fs : List Int} {n k : Nat} (h : k < n) : nth (ifL fs n) k = if ((k : Int) == nth fs k) = true then 1 else 0 := by
  rw [nth_lt (by rw [ifL_len]; exact h)]
  simp [ifL]

set_option maxHeartbeats 2000000 in
set_option maxRecDepth 20000 in
theorem isFirst_any (so ao : Option Addr) (sn sc an ac : Nat) (sh at' : List Int) (w : World) (h : Rd w so sn sh) (hs : Sl so sn sc) (g : Rd w ao an at') (gs : Sl ao an ac) (h0 : mayA sh at' = 0) :
    Calls Try.prog 37 #[.agg #[.slice so sn sc, .slice ao an ac]] w fun e w' => AnsQ w (fun S A => S = [(itN sh : Int)] ∧ A = ifL (fsL (itX sh at') (itN sh)) (itN sh)) 0 e w' := by
  have U0 := un_startQ w so sn sc ao an ac
  have hfi := finderOf_any so ao sn sc an ac sh at' _ (h.below U0.bel (Nat.le_refl _)) hs (g.below U0.bel (Nat.le_refl _)) gs h0
  obtain ⟨q0, q1, _, _⟩ := box2 U0.x
  generalize itN sh = n at *
  generalize itX sh at' = xs at *
  obtain ⟨fs, hfx⟩ : ∃ fs, fsL xs n = fs := ⟨_, rfl⟩
  rw [hfx]
  have HFX : Hid (fsL xs n = fs) := hfx
  clear hfx
  go_enter Try.func37, Try.ntmps37
  have hmk := fun (X : World) (hn : n ≤ 4096) => run_make_row' (P := Try.prog) 23 2 (.int .i64 0) 8 Try.underlying23 infoLQ rfl .i64 .i64 n (by omega) (by omega) X
  go_upto_region 2 with (first
    | (go_at_call 46; (with_reducible refine hfi.mono ?_); rintro e w1 ⟨io, po, pc, rfl, Fn, lb⟩; have U1 := U0.below lb U0.sz)
    | (go_at_call 55; (with_reducible refine (firsts_any _ _ _ _ _ _ w1 Fn).mono ?_); rintro e w2 ⟨g2, rfl, f2, b2⟩; have U2 := U1.below b2 U1.sz))
  have hn4 := Fn.n4
  have hmk2 := fun X => hmk X hn4
  have R0 := Rl.made w2 n (by omega)
  have s2 := U2.sz
  rw [HFX.out] at f2
  clear hfi hmk lb Fn U1 b2 q0 q1
  go_wp2
  clear hmk2
  go_loopw [16] (fun i V => ∃ (k : Nat) (zs : List Int), k ≤ n ∧ i = .int .i64 (k : Nat) ∧ Rl w2.heap.size n w2 V zs ∧ ∀ j, j < k → nth zs j = nth (ifL fs n) j) (fun i _ => n - (intOf i).toNat)
  case atStart => exact ⟨0, _, Nat.zero_le _, rfl, R0, fun j hj => by omega⟩
  case round =>
    obtain ⟨k, zs, hk, rfl, R, Z⟩ := hrel
    clear R0
    by_cases hlt : k < n
    · have t1 : decide ((k : Int) < (n : Int)) = true := by simp; omega
      have bk : (k : Int) < (n : Int) := by omega
      have wk := wrY (z := (k : Int) + 1) (by omega) (by omega)
      have RV := f2.rd.below R.bel (Nat.le_refl _)
      obtain ⟨b, off, eb, hb, hc⟩ := RV.cells (by omega)
      cases eb
      have cc := hc k hlt
      rw [Nat.zero_add] at cc
      have HV : Hid (nth (ifL fs n) k = if ((k : Int) == nth fs k) = true then 1 else 0) := ifL_nth hlt
      generalize nth fs k = x at *
      have ht := fun V => truth_any ((k : Int) == x) V
      have hbd : -9223372036854775808 ≤ (if ((k : Int) == x) = true then (1 : Int) else 0) ∧ (if ((k : Int) == x) = true then (1 : Int) else 0) ≤ 9223372036854775807 := by split <;> omega
      obtain ⟨u, hu⟩ : ∃ u : Int, (if ((k : Int) == x) = true then (1 : Int) else 0) = u := ⟨_, rfl⟩
      rw [hu] at hbd
      have HU : Hid ((if ((k : Int) == x) = true then (1 : Int) else 0) = u) := hu
      rw [hu] at ht
      obtain ⟨c1, f1⟩ := R.slot hlt
      have R6 := R.set hlt u hbd.1 hbd.2
      have HZ : Hid (∀ j, j < k → nth zs j = nth (ifL fs n) j) := Z
      clear hc hu Z
      go_wp2_with (first
        | (go_at_call 51; (with_reducible refine (ht _).mono ?_); rintro e w3 ⟨rfl, hw3⟩; rw [hw3]; clear hw3 w3))
      go_roundw
      case rel => exact ⟨k + 1, _, by omega, by go_num, R6, fun j hj => by
        rw [nth_setY (by rw [R.len]; exact hlt)]
        split
        · rename_i e; rw [e, HV.out, HU.out]
        · exact HZ.out j (by omega)⟩
      case measure => simp [intOf]; omega
    · obtain rfl : k = n := by omega
      have t1 : decide ((k : Int) < (k : Int)) = false := by simp
      have e : zs = ifL fs k := ext_nth (by rw [R.len, ifL_len]) (fun j hj => by rw [R.len] at hj; exact Z j hj)
      subst e
      have kb := box_below wr (.cells #[.int .i64 (k : Int)] 3)
      have rl := R.lt
      have U3 := (U2.below R.bel s2).below kb (by omega)
      obtain ⟨r0, r1, r2, r3⟩ := box2 U3.r
      have F1 := ft_new 3 wr [(k : Int)] (by simp) (fun j hj => by rw [show j = 0 by simp at hj; omega, show nth [(k : Int)] 0 = (k : Int) from rfl]; omega)
      have F2 := (R.below kb).row
      clear Z
      go_wp2
      (try simp only [Exit.inBlock, Exit.then])
      refine bodyPost_ret (v := .tuple #[.agg #[.slice (some ⟨wr.heap.size, 0, none⟩) 1 1, .slice (some ⟨w2.heap.size, 0, none⟩) k k], .int .i64 0]) (by rw [results_cell_tmp rfl]; go_simp) rfl ?_
      exact ⟨_, _, _, _, _, _, _, _, rfl, (ft_setQ F1 (by omega) _ _).mono (by omega), (ft_setQ F2 (by omega) _ _).mono (by omega), ⟨rfl, rfl⟩, below_set2 _ _ _ _ U3.bel (by omega) (Nat.le_refl _)⟩

/-- The table of classes: which class each item is of. -/
def ckL (nb fs : List Int) (n : Nat) : List Int := (List.range (nb.length * n)).map fun q => if (nth nb (q / n) == nth fs (q % n)) = true then 1 else 0
theorem ckL_len (nb fs : List Int) (n : Nat) : (ckL nb fs n).length = nb.length * n := by simp [ckL]
theorem ckL_nth {nb fs : List Int} {n i j : Nat} (hi : i < nb.length) (hj : j < n) : nth (ckL nb fs n) (i * n + j) = if (nth nb i == nth fs j) = true then 1 else 0 := by
  have hq : i * n + j < nb.length * n := by
    have := Nat.mul_le_mul_right n (show i + 1 ≤ nb.length by omega)
    rw [Nat.succ_mul] at this
    omega
  have e1 : (i * n + j) / n = i := by rw [Nat.mul_comm, Nat.mul_add_div (by omega), Nat.div_eq_of_lt hj, Nat.add_zero]
  have e2 : (i * n + j) % n = j := by rw [Nat.mul_comm, Nat.mul_add_mod, Nat.mod_eq_of_lt hj]
  rw [nth_lt (by rw [ckL_len]; exact hq)]
  unfold ckL
  rw [List.getElem_map, List.getElem_range, e1, e2]
/-- Between two rounds of classify. -/
structure Ek (U V : World) (zb : Nat) (o1 : Option Addr) (n1 c1 : Nat) (sh1 : List Int) (o2 : Option Addr) (n2 c2 : Nat) (zs : List Int) : Prop where
  bel : Below U.heap.size U V
  out : V.heap[zb]? = some (.cells #[.slice o1 n1 c1, .slice o2 n2 c2] 25 (0, 0))
  f1 : Ft 3 V U.heap.size o1 n1 c1 sh1
  f2 : Ft 2 V U.heap.size o2 n2 c2 zs
theorem Ek.drew {U V : World} {zb : Nat} {o1 : Option Addr} {n1 c1 : Nat} {sh1 : List Int} {o2 : Option Addr} {n2 c2 : Nat} {zs : List Int} (h : Ek U V zb o1 n1 c1 sh1 o2 n2 c2 zs) : Ek U V.drew zb o1 n1 c1 sh1 o2 n2 c2 zs := by
  have b : Below V.heap.size V V.drew := (Below.refl _ _).drew
  exact ⟨h.bel.drew, (b.block _ (Array.getElem?_eq_some_iff.1 h.out).1).trans h.out, h.f1.below b (Nat.le_refl _), h.f2.below b (Nat.le_refl _)⟩
theorem Ek.set {U V : World} {zb : Nat} {o1 : Option Addr} {n1 c1 : Nat} {sh1 : List Int} {b2 n2 c2 : Nat} {zs : List Int} (h : Ek U V zb o1 n1 c1 sh1 (some ⟨b2, 0, none⟩) n2 c2 zs) {k : Nat} (hk : k < n2) (u : Int) (h1 : -9223372036854775808 ≤ u) (h2 : u ≤ 9223372036854775807) :
    Ek U (V.setCell ⟨b2, k, none⟩ (.int .i64 u)) zb o1 n1 c1 sh1 (some ⟨b2, 0, none⟩) n2 c2 (zs.set k u) := by
  have kk := set1 V b2 k (.int .i64 u)
  have hb2 := (h.f2.at b2 0 rfl).1
  have f1 := h.f1.keep1 kk (fun b off e e2 => by
    injection e2 with e2
    subst e2
    rcases h.f2.own.2 with ⟨e4, h0⟩ | ⟨g', c', cur', e4, hB2, hg2, r⟩
    · cases e4
    · injection e4 with e5; cases e5
      exact h.f1.nebox hg2 ty_ne3 _ _ e rfl)
  exact ⟨h.bel.setCell (p := ⟨b2, k, none⟩) hb2 _, (kk.block _ (Array.getElem?_eq_some_iff.1 h.out).1 (fun e => h.f2.nebox h.out ty_ne2 b2 0 rfl e.symm)).trans h.out, f1, h.f2.setY k hk u h1 h2⟩
theorem Ek.slot {U V : World} {zb : Nat} {o1 : Option Addr} {n1 c1 : Nat} {sh1 : List Int} {o2 : Option Addr} {n2 c2 : Nat} {zs : List Int} (h : Ek U V zb o1 n1 c1 sh1 o2 n2 c2 zs) {k : Nat} (hk : k < n2) : ∃ b2, o2 = some ⟨b2, 0, none⟩ ∧ (∃ v, V.cell? ⟨b2, k, none⟩ = some v) ∧ V.frozen? ⟨b2, k, none⟩ = false := by
  rcases h.f2.own.2 with ⟨e1, h0⟩ | ⟨g', c', cur, e1, hB2, hg, r⟩
  · omega
  · injection e1 with e2
    obtain ⟨b, off, e, hb, hc⟩ := h.f2.rd.cells (by omega)
    rw [e2] at e
    cases e
    have c := hc k hk
    rw [Nat.zero_add] at c
    exact ⟨g', e2, ⟨_, c⟩, frozen_of_row V g' k _ _ hg⟩

set_option maxHeartbeats 4000000 in
set_option maxRecDepth 20000 in
theorem classify_any (so ao : Option Addr) (sn sc an ac : Nat) (sh at' : List Int) (w : World) (h : Rd w so sn sh) (hs : Sl so sn sc) (g : Rd w ao an at') (gs : Sl ao an ac) (h0 : mayA sh at' = 0) :
    Calls Try.prog 38 #[.agg #[.slice so sn sc, .slice ao an ac]] w fun e w' => AnsQ w (fun S A => mayF [((nbP sh at').length : Int), (itN sh : Int)] = 0 → S = [((nbP sh at').length : Int), (itN sh : Int)] ∧ A = ckL (nbP sh at') (fsL (itX sh at') (itN sh)) (itN sh)) (mayF [((nbP sh at').length : Int), (itN sh : Int)]) e w' := by
  have U0 := un_startQ w so sn sc ao an ac
  have hfi := finderOf_any so ao sn sc an ac sh at' _ (h.below U0.bel (Nat.le_refl _)) hs (g.below U0.bel (Nat.le_refl _)) gs h0
  obtain ⟨q0, q1, _, _⟩ := box2 U0.x
  have hle := nbP_len sh at'
  have HNB : Hid (nbP sh at' = nwo (fsL (itX sh at') (itN sh)) (itN sh)) := rfl
  generalize nbP sh at' = nb at *
  generalize itN sh = n at *
  generalize itX sh at' = xs at *
  have HFL : Hid ((fsL xs n).length = n) := fsL_len _ _
  obtain ⟨fs, hfx⟩ : ∃ fs, fsL xs n = fs := ⟨_, rfl⟩
  have HFX : Hid (fsL xs n = fs) := hfx
  rw [hfx] at HNB HFL ⊢
  obtain ⟨m, hm⟩ : ∃ m : Nat, nb.length = m := ⟨_, rfl⟩
  have HM : Hid (nb.length = m) := hm
  rw [hm] at hle ⊢
  clear hfx hm
  have FN : ∀ V : World, n ≤ 4096 → Ft 3 (V.alloc (.cells #[.int .i64 (m : Nat), .int .i64 (n : Nat)] 3)) V.heap.size (some ⟨V.heap.size, 0, none⟩) 2 2 [(m : Int), (n : Int)] := fun V hn => ft_new 3 V [(m : Int), (n : Int)] (by simp) (fun j hj => by
    match j, hj with
    | 0, _ => exact ⟨by show (-9223372036854775808 : Int) ≤ m; omega, by show (m : Int) ≤ _; omega⟩
    | 1, _ => exact ⟨by show (-9223372036854775808 : Int) ≤ n; omega, by show (n : Int) ≤ _; omega⟩
    | j + 2, hj => simp at hj; omega)
  have hfill := fun (V : World) (hn : n ≤ 4096) => fill_any (some ⟨V.heap.size, 0, none⟩) 2 2 [(m : Int), (n : Int)] 0 _ (FN V hn).rd (FN V hn).sl (by omega) (by omega)
  clear FN
  have epr : pr [(m : Int), (n : Int)] = ((m * n : Nat) : Int) := by simp [pr]
  obtain ⟨E, hE⟩ : ∃ E, mayF [(m : Int), (n : Int)] = E := ⟨_, rfl⟩
  have HE : Hid (mayF [(m : Int), (n : Int)] = E) := hE
  have HMN : Hid (E = 0 → m * n ≤ 4096) := fun h => by
    have := pr_small (zs := [(m : Int), (n : Int)]) (hE.trans h) 2 (by simp)
    rw [List.take_of_length_le (by simp), epr] at this
    omega
  rw [hE]
  rw [hE] at hfill
  clear hE epr
  go_enter Try.func38, Try.ntmps38
  go_upto_region 4 with (first
    | (go_at_call 46; (with_reducible refine hfi.mono ?_); rintro e w1 ⟨io, po, pc, rfl, Fn, lb⟩; have U1 := U0.below lb U0.sz; have hn4 := Fn.n4)
    | (go_at_call 55; (with_reducible refine (firsts_any _ _ _ _ _ _ w1 Fn).mono ?_); rintro e w2 ⟨g2, rfl, f2, b2⟩; have U2 := U1.below b2 U1.sz; rw [HFX.out] at f2)
    | (go_at_call 54; (with_reducible refine (newOnes_any _ _ _ _ w2 f2.rd hn4).mono ?_); rintro e w3 ⟨o3, m3, c3, rfl, f3, b3⟩; have U3 := U2.below b3 U2.sz; rw [← HNB.out] at f3; have e3 : m3 = m := f3.rd.len.symm.trans HM.out; subst e3; have F2 := f2.below b3 (Nat.le_refl _); have kl := box_below w3 (.cells #[.int .i64 (m3 : Nat), .int .i64 (n : Nat)] 3); have U4 := U3.below kl U3.sz; have F2' := F2.below kl (Nat.le_refl _); have F3' := f3.below kl (Nat.le_refl _))
    | (go_at_call 56; (with_reducible refine (hfill w3 hn4).mono ?_); rintro e w4 ⟨o1, n1, c1, o2, n2, c2, rfl, G1, G2, hap, k4⟩))
  have s4 := U4.sz
  have U5 := U4.below k4 s4
  have z4 := k4.size
  have kz := box_below w4 (.cells #[.slice o1 n1 c1, .slice o2 n2 c2] 25)
  have zb := allocNew w4 (.cells #[.slice o1 n1 c1, .slice o2 n2 c2] 25)
  have U6 := U5.below kz U5.sz
  clear hfi hfill lb Fn U1 b2 b3 U2 U3 f2 f3 F2 kl q0 q1 h g U0
  by_cases hE0 : E = 0
  case neg =>
    have t1 : (E != 0) = true := by simpa using hE0
    obtain ⟨r0, r1, r2, r3⟩ := box2 U6.r
    go_wp2
    (try simp only [Exit.inBlock, Exit.then])
    refine bodyPost_ret (v := .tuple #[.agg #[.slice none 0 0, .slice none 0 0], .int .i64 E]) (by rw [results_cell_tmp rfl]; go_simp) rfl ?_
    exact ⟨none, 0, 0, none, 0, 0, [], [], rfl, Ft.nil _ _ _, Ft.nil _ _ _, fun h => absurd h hE0, below_set2 _ _ _ _ U6.bel (by omega) (Nat.le_refl _)⟩
  subst hE0
  have hmn := HMN.out rfl
  have t1 : ((0 : Int) != 0) = false := by simp
  have eS : filS [(m3 : Int), (n : Int)] = [(m3 : Int), (n : Int)] := by unfold filS; rw [if_pos HE.out]
  have eA : (filA [(m3 : Int), (n : Int)] 0).length = m3 * n := by
    unfold filA
    rw [if_pos HE.out, List.length_replicate]
    simp [pr]
    exact Int.toNat_natCast _
  rw [eS] at G1
  have en2 : n2 = m3 * n := G2.rd.len.symm.trans eA
  clear eS eA
  obtain ⟨z0, hz0⟩ : ∃ z0, filA [(m3 : Int), (n : Int)] 0 = z0 := ⟨_, rfl⟩
  rw [hz0] at G2
  clear hz0
  generalize hX : w3.alloc (Obj.cells #[Value.int IntKind.i64 (m3 : Nat), Value.int IntKind.i64 (n : Nat)] 3) = X at *
  have E0 : Ek X (w4.alloc (.cells #[.slice o1 n1 c1, .slice o2 n2 c2] 25)) w4.heap.size o1 n1 c1 [(m3 : Int), (n : Int)] o2 n2 c2 z0 := ⟨k4.trans (kz.mono k4.size), zb, G1.below kz (Nat.le_refl _), G2.below kz (Nat.le_refl _)⟩
  clear G1 G2 kz zb U6 U5 k4 z4 HMN hap HE hX
  have HN : Hid (n2 = m3 * n) := en2
  rw [← en2] at hmn
  clear en2
  go_wp2
  go_loopw [32] (fun i V => ∃ (k : Nat) (zs : List Int), k ≤ m3 ∧ i = .int .i64 (k : Nat) ∧ Ek X V w4.heap.size o1 n1 c1 [(m3 : Int), (n : Int)] o2 n2 c2 zs ∧ ∀ q, q < k * n → nth zs q = nth (ckL nb fs n) q) (fun i _ => m3 - (intOf i).toNat)
  case atStart => exact ⟨0, _, Nat.zero_le _, rfl, E0, fun q hq => by omega⟩
  case round =>
    obtain ⟨k, zs, hk, rfl, R, Z⟩ := hrel
    clear E0
    by_cases hlt : k < m3
    · have t2 : decide ((k : Int) < (m3 : Int)) = true := by simp; omega
      have bk : (k : Int) < (m3 : Int) := by omega
      have wk := wrY (z := (k : Int) + 1) (by omega) (by omega)
      have RV := F3'.rd.below R.bel (Nat.le_refl _)
      obtain ⟨b3, off3, rfl, hb3, hc3⟩ := RV.cells (by omega)
      have c3' := hc3 k hlt
      have HC : Hid (∀ j, j < n → nth (ckL nb fs n) (k * n + j) = if (nth nb k == nth fs j) = true then 1 else 0) := fun j hj => ckL_nth (by rw [HM.out]; exact hlt) hj
      have hkn : k * n + n ≤ n2 := by
        have := Nat.mul_le_mul_right n (show k + 1 ≤ m3 by omega)
        rw [Nat.succ_mul] at this
        rw [HN.out]
        exact this
      have HS : Hid (∀ kn, k * n = kn → (k + 1) * n = kn + n) := fun kn e => by rw [Nat.succ_mul, e]
      have HK : Hid ((k : Int) * (n : Int) = ((k * n : Nat) : Int)) := by exact Int.natCast_mul k n
      obtain ⟨x, hx⟩ : ∃ x, nth nb k = x := ⟨_, rfl⟩
      rw [hx] at HC c3'
      obtain ⟨kn, hkn2⟩ : ∃ kn, k * n = kn := ⟨_, rfl⟩
      have HS' := HS.out kn hkn2
      rw [hkn2] at HC HK Z hkn
      have ek := HK.out
      have wm := wrY (z := (k : Int) * (n : Int)) (by omega) (by omega)
      clear hc3 hx RV HS HK
      go_wp2
      go_loopw [39] (fun i V => ∃ (j : Nat) (ys : List Int), j ≤ n ∧ i = .int .i64 (j : Nat) ∧ Ek X V w4.heap.size o1 n1 c1 [(m3 : Int), (n : Int)] o2 n2 c2 ys ∧ ∀ q, q < kn + j → nth ys q = nth (ckL nb fs n) q) (fun i _ => n - (intOf i).toNat)
      case atStart => exact ⟨0, _, Nat.zero_le _, rfl, R, fun q hq => Z q (by omega)⟩
      case round =>
        obtain ⟨j, ys, hj, rfl, T, Y⟩ := hrel
        clear R Z
        by_cases hjt : j < n
        · have t3 : decide ((j : Int) < (n : Int)) = true := by simp; omega
          have bj : (j : Int) < (n : Int) := by omega
          have wj := wrY (z := (j : Int) + 1) (by omega) (by omega)
          have RF := F2'.rd.below T.bel (Nat.le_refl _)
          obtain ⟨b, off, eb, hb, hc⟩ := RF.cells (by omega)
          cases eb
          have cc := hc j hjt
          rw [Nat.zero_add] at cc
          have HV := HC.out j hjt
          have HV2 : Hid (nth (ckL nb fs n) (kn + j) = if (x == nth fs j) = true then 1 else 0) := HV
          obtain ⟨y, hy⟩ : ∃ y, nth fs j = y := ⟨_, rfl⟩
          rw [hy] at HV2 cc
          have ht := fun V => truth_any (x == y) V
          have hbd : -9223372036854775808 ≤ (if (x == y) = true then (1 : Int) else 0) ∧ (if (x == y) = true then (1 : Int) else 0) ≤ 9223372036854775807 := by split <;> omega
          obtain ⟨u, hu⟩ : ∃ u : Int, (if (x == y) = true then (1 : Int) else 0) = u := ⟨_, rfl⟩
          rw [hu] at hbd ht HV2
          have wa := wrY (z := (kn : Int) + (j : Int)) (by omega) (by omega)
          have hp : kn + j < n2 := by omega
          obtain ⟨p, hpp⟩ : ∃ p, kn + j = p := ⟨_, rfl⟩
          have ep : (kn : Int) + (j : Int) = (p : Int) := by omega
          have HPP : Hid (kn + j = p) := hpp
          have wp := wrY (z := (p : Int)) (by omega) (by omega)
          have wkn := wrY (z := (kn : Int)) (by omega) (by omega)
          rw [hpp] at HV2 hp Y
          have bp : (p : Int) < (n2 : Int) := by omega
          have T1 := T.drew
          obtain ⟨b2, rfl, ⟨v1, cv1⟩, fz1⟩ := T1.slot hp
          have T6 := T1.set hp u hbd.1 hbd.2
          have SA : _ ∧ _ := ⟨(box2 T1.out).2.1, (box2 T1.out).1⟩
          have S6 : _ ∧ _ := ⟨(box2 T6.out).2.1, (box2 T6.out).1⟩
          have HY : Hid (∀ q, q < p → nth ys q = nth (ckL nb fs n) q) := Y
          clear hc hu hy Y HV hpp
          go_wp2
          go_region_held3 (fun U => U.cell? ⟨w4.heap.size, 1, none⟩ = some (.slice (some ⟨b2, 0, none⟩) n2 c2) ∧ U.cell? ⟨w4.heap.size, 0, none⟩ = some (.slice o1 n1 c1)) (first | exact SA | exact S6)
            (first
              | (go_at_call 51; (with_reducible refine (ht _).mono ?_); rintro e w5 ⟨rfl, hw5⟩; rw [hw5]; clear hw5 w5))
          go_wp2
          go_roundw
          case rel => exact ⟨j + 1, _, by omega, by go_num, T6, fun q hq => by
            rw [nth_setY (by rw [T.f2.rd.len]; exact hp)]
            split
            · rename_i e; rw [e, HV2.out]
            · exact HY.out q (by have := HPP.out; omega)⟩
          case measure => simp [intOf]; omega
        · obtain rfl : j = n := by omega
          have t3 : decide ((j : Int) < (j : Int)) = false := by simp
          have HY : Hid (∀ q, q < kn + j → nth ys q = nth (ckL nb fs j) q) := Y
          clear Y
          go_wp2
          go_roundw
          case rel => exact ⟨k + 1, _, by omega, by go_num, T, fun q hq => HY.out q (by rw [HS'] at hq; exact hq)⟩
          case measure => simp [intOf]; omega
    · obtain rfl : k = m3 := by omega
      have t2 : decide ((k : Int) < (k : Int)) = false := by simp
      have ez : zs = ckL nb fs n := ext_nth (by rw [R.f2.rd.len, ckL_len, HM.out, HN.out]) (fun q hq => by rw [R.f2.rd.len, HN.out] at hq; exact Z q hq)
      subst ez
      have U7 := U4.below R.bel s4
      have s7 := U7.sz
      obtain ⟨y0, y1, _, _⟩ := box2 R.out
      obtain ⟨r0, r1, r2, r3⟩ := box2 U7.r
      clear Z
      go_wp2
      (try simp only [Exit.inBlock, Exit.then])
      refine bodyPost_ret (v := .tuple #[.agg #[.slice o1 n1 c1, .slice o2 n2 c2], .int .i64 0]) (by rw [results_cell_tmp rfl]; go_simp) rfl ?_
      exact ⟨o1, n1, c1, o2, n2, c2, _, _, rfl, (ft_setQ R.f1 (by omega) _ _).mono (by omega), (ft_setQ R.f2 (by omega) _ _).mono (by omega), ⟨rfl, rfl⟩, below_set2 _ _ _ _ U7.bel (by omega) (Nat.le_refl _)⟩
end Go.Proofs.Ytlncjmeabonpfaa
