
/- Contracts of package digit: atoms that are taken so often; items that are repeated. -/

import Derived.Test.YtjnlkdeiccllgaaZE

namespace Go.Proofs.Ytjnlkdeiccllgaa

open Go.RowKit

set_option linter.unusedVariables false

/-- An array's atoms; those of a scalar n times over. -/
def takL (sh at' : List Int) (n : Nat) : List Int := if sh.length = 0 then repL at' n else at'
set_option maxHeartbeats 1000000 in
theorem taken_any (so ao : Option Addr) (sn sc an ac n : Nat) (sh at' : List Int) (w : World) (h : Rd w so sn sh) (g : Rd w ao an at') (gs : Sl ao an ac) (hn : n ≤ 4096) (h1 : sn = 0 → an = 1) :
    Calls Try.prog 36 #[.agg #[.slice so sn sc, .slice ao an ac], .int .i64 (n : Nat)] w fun e w' => ∃ to' tn tc, e = .returned (.slice to' tn tc) ∧ Rd w' to' tn (takL sh at' n) ∧ Sl to' tn tc ∧ Below w.heap.size w w' := by
  have k0 := box_below w (.cells #[.slice so sn sc, .slice ao an ac] 26)
  obtain ⟨x0, x1, _, _⟩ := box2 (allocNew w (.cells #[.slice so sn sc, .slice ao an ac] 26))
  have g0 := g.below k0 (Nat.le_refl _)
  have HL := h.len
  by_cases hs : sn = 0
  · obtain rfl : an = 1 := h1 hs
    subst hs
    have HT : Hid (takL sh at' n = repL at' n) := by show _ = _; unfold takL; rw [if_pos (by omega)]
    have cR := repeatL_any ao 1 ac n n at' _ g0 (by omega) hn (by omega) hn
    clear HL h1
    go_enter Try.func36, Try.ntmps36
    go_wp2_with (go_at_call 56; (with_reducible refine cR.mono ?_); rintro e w1 ⟨o1, c1, rfl, f1, b1⟩)
    go_ret
    exact ⟨o1, n, c1, rfl, by rw [HT.out]; exact f1.rd, f1.sl, k0.trans (b1.mono k0.size)⟩
  · have HT : Hid (takL sh at' n = at') := by show _ = _; unfold takL; rw [if_neg (by omega)]
    have t1 : decide (0 < sn) = true := by simp; omega
    have t2 : (0 : Int) < (sn : Int) := by omega
    have t3 : 0 < sn := by omega
    clear HL h1 hs
    go_enter Try.func36, Try.ntmps36
    go_wp2
    go_ret
    exact ⟨ao, an, ac, rfl, by rw [HT.out]; exact g0, gs, k0⟩

/-- The k-th of some items of wd atoms each. -/
def itA (xs : List Int) (wd k : Nat) : List Int := (xs.drop (k * wd)).take wd
/-- The first k items, each as often as its number says. -/
def rpd (xs : List Int) (wd : Nat) (ns : List Int) (k : Nat) : List Int := (List.range k).flatMap (fun i => repL (itA xs wd i) (nth ns i).toNat)
theorem rpd_succ (xs : List Int) (wd : Nat) (ns : List Int) (k : Nat) : rpd xs wd ns (k + 1) = rpd xs wd ns k ++ repL (itA xs wd k) (nth ns k).toNat := by
  unfold rpd; rw [List.range_succ, List.flatMap_append]; simp
theorem itA_len {xs : List Int} {wd k n : Nat} (h : n * wd = xs.length) (hk : k < n) : (itA xs wd k).length = wd := by
  have := Nat.mul_le_mul_right wd (show k + 1 ≤ n by omega)
  rw [Nat.succ_mul] at this
  unfold itA
  rw [List.length_take, List.length_drop]
  omega
theorem rpd_len {xs : List Int} {wd n : Nat} {ns : List Int} (h : n * wd = xs.length) (hn : ns.length = n) (h0 : ∀ k, k < n → 0 ≤ nth ns k) : ∀ k, k ≤ n → ((rpd xs wd ns k).length : Int) = (wd : Int) * sm (ns.take k)
  | 0, _ => by simp [rpd, sm]
  | k + 1, hk => by
    rw [rpd_succ, List.length_append, repL_len, itA_len h (by omega), take_nth (by omega), sm_snoc, Int.mul_add, Int.natCast_add, rpd_len h hn h0 k (by omega), Int.natCast_mul, Int.toNat_of_nonneg (h0 k (by omega))]

set_option maxHeartbeats 4000000 in
set_option maxRecDepth 20000 in
theorem repeated_any (ao bo : Option Addr) (m ac n bc wd : Nat) (xs ns : List Int) (w : World) (h : Rd w ao m xs) (hs : Sl ao m ac) (g : Rd w bo n ns) (hm : n * wd = m) (hm4 : m ≤ 4096) (hn4 : n ≤ 4096) (h0 : ∀ k, k < n → 0 ≤ nth ns k ∧ nth ns k ≤ 4096) (hT : (wd : Int) * sm ns ≤ 4096) :
    Calls Try.prog 35 #[.slice ao m ac, .slice bo n bc] w fun e w' => ∃ oo on oc, e = .returned (.slice oo on oc) ∧ Ft 2 w' w.heap.size oo on oc (rpd xs wd ns n) ∧ Below w.heap.size w w' := by
  have HX := h.len
  have HNL := g.len
  have hup := sm_up (zs := ns) (fun k hk => (h0 k (by omega)).1) n (by omega)
  have hst : sm (ns.take n) = sm ns := by rw [List.take_of_length_le (by omega)]
  have HLEN : Hid (∀ k, k ≤ n → (rpd xs wd ns k).length ≤ 4096) := fun k hk => by
    have e := rpd_len (by rw [hm, HX]) HNL (fun k hk => (h0 k hk).1) k hk
    have u := (hup k hk).2
    rw [hst] at u
    have := Int.mul_le_mul_of_nonneg_left u (show 0 ≤ (wd : Int) by omega)
    omega
  have HREP : Hid (∀ k, k < n → (itA xs wd k).length = wd ∧ wd * (nth ns k).toNat ≤ 4096 ∧ rpd xs wd ns (k + 1) = rpd xs wd ns k ++ repL (itA xs wd k) (nth ns k).toNat) := fun k hk => by
    have l1 := itA_len (xs := xs) (wd := wd) (k := k) (by rw [hm, HX]) hk
    have l2 := rpd_succ xs wd ns k
    have l3 := HLEN.out (k + 1) (by omega)
    rw [l2, List.length_append, repL_len, l1] at l3
    exact ⟨l1, by omega, l2⟩
  have HM : Hid (n * wd = m) := hm
  have H0 : Hid (∀ k, k < n → 0 ≤ nth ns k ∧ nth ns k ≤ 4096) := h0
  have sle := hs.le
  have smx := hs.max
  clear hm h0 hT hup hst HX HNL
  go_enter Try.func35, Try.ntmps35
  go_wp2
  go_loopw [5, 11] (fun s i V => ∃ (k : Nat) (oo : Option Addr) (on oc : Nat), k ≤ n ∧ i = .int .i64 (k : Nat) ∧ s = .slice oo on oc ∧ Ft 2 V w.heap.size oo on oc (rpd xs wd ns k) ∧ Below w.heap.size w V) (fun _ i _ => n - (intOf i).toNat)
  case atStart => exact ⟨0, none, 0, 0, Nat.zero_le _, rfl, rfl, Ft.nil _ _ _, Below.refl _ _⟩
  case round =>
    obtain ⟨k, oo, on, oc, hk, rfl, rfl, F, B⟩ := hrel
    by_cases hlt : k < n
    · have t1 : decide ((k : Int) < (n : Int)) = true := by simp; omega
      have bk : (k : Int) < (n : Int) := by omega
      have hV := h.below B (Nat.le_refl _)
      obtain ⟨b, off, rfl, hb, hc⟩ := (g.below B (Nat.le_refl _)).cells (by omega)
      have c1 := hc k hlt
      have hx := H0.out k hlt
      obtain ⟨q, hq⟩ : ∃ q : Nat, nth ns k = q := ⟨(nth ns k).toNat, by omega⟩
      obtain ⟨l1, l2, l3⟩ := HREP.out k hlt
      have l4 := HLEN.out k hk
      rw [F.rd.len] at l4
      rw [hq, Int.toNat_natCast] at l2 l3
      rw [hq] at c1 hx
      obtain ⟨lo, hlo⟩ : ∃ lo : Nat, lo = k * wd := ⟨_, rfl⟩
      obtain ⟨hi, hhi⟩ : ∃ hi : Nat, hi = (k + 1) * wd := ⟨_, rfl⟩
      have hle : hi ≤ m := by rw [hhi, ← HM.out]; exact Nat.mul_le_mul_right _ (by omega)
      have hlh : lo + wd = hi := by rw [hlo, hhi, Nat.succ_mul]
      have m1 : (k : Int) * (wd : Int) = (lo : Int) := by rw [hlo]; simp
      have m2 : ((k : Int) + 1) * (wd : Int) = (hi : Int) := by rw [hhi]; simp
      have md : IntKind.i64.wrap ((m : Int) / (n : Int)) = (wd : Int) := by
        have e : (m : Int) / (n : Int) = (wd : Int) := by rw [← HM.out, Int.natCast_mul]; exact Int.mul_ediv_cancel_left _ (by omega)
        rw [e]; exact wrapIn _ (by omega)
      have nz : ¬ (n : Int) = 0 := by omega
      have nz2 : ¬ n = 0 := by omega
      have w1' := wrZ (z := (lo : Int)) (by omega) (by omega)
      have w2' := wrZ (z := (hi : Int)) (by omega) (by omega)
      have w3' := wrZ (z := (k : Int) + 1) (by omega) (by omega)
      have b1 : (lo : Int) ≤ (hi : Int) := by omega
      have b2 : (hi : Int) ≤ (ac : Int) := by omega
      obtain ⟨p2, hp2⟩ : ∃ p2, (if ac = lo then ao else Option.map (fun x => x.add lo) ao) = p2 := ⟨_, rfl⟩
      obtain ⟨y1, y2⟩ := hV.sub hs hp2 (show lo ≤ hi by omega) hle
      obtain ⟨d, hd⟩ : ∃ d, d = hi - lo := ⟨_, rfl⟩
      rw [show (xs.drop lo).take (hi - lo) = itA xs wd k by unfold itA; rw [← hlo, show hi - lo = wd by omega]] at y1
      have cR := repeatL_any p2 (hi - lo) (ac - lo) q (wd * q) (itA xs wd k) wr y1 (by rw [show hi - lo = wd by omega]) l2 (by omega) (by omega)
      have HS : Hid (rpd xs wd ns (k + 1) = rpd xs wd ns k ++ repL (itA xs wd k) q) := l3
      have sB := B.size
      clear l3 hlo hhi hlh hc hq l1 hd
      generalize wd * q = N at *
      go_wp2_with (first
        | (go_at_call 56; (with_reducible refine cR.mono ?_); rintro e w2 ⟨o2, c2, rfl, f2, b2⟩; have s2 := b2.size)
        | (at_builtin; refine wpList_joinT tyL rfl _ _ rfl w.heap.size oo o2 on oc N c2 _ (repL (itA xs wd k) q) rfl rfl (F.below b2 (Nat.le_refl _)) f2.rd f2.sl (by omega) (by omega) ?_; intro co3 c3 w3 f3 b3))
      go_roundw
      case rel => exact ⟨k + 1, co3, on + N, c3, by omega, by go_num, rfl, by rw [HS.out]; exact f3, (B.trans (b2.mono sB)).trans b3⟩
      case measure => simp [intOf]; omega
    · obtain rfl : k = n := by omega
      have t1 : decide ((k : Int) < (k : Int)) = false := by simp
      go_wp2
      go_ret
      exact ⟨oo, on, oc, rfl, F, B⟩
end Go.Proofs.Ytjnlkdeiccllgaa
