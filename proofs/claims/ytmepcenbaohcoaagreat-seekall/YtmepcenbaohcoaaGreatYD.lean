
/- Contracts of the sort that package seek hands its places to: two rising parts merged, the midst. -/

import Derived.Test.YtmepcenbaohcoaaGreatYC

namespace Go.Proofs.YtmepcenbaohcoaaGreat

open Go.RowKit

set_option linter.unusedVariables false

/-- The search in the midst has ended. -/
theorem cut_of {N : Nat} {c : Int → Int → Int} {zs : List Int} {a m b mid s0 r0 s e : Nat} (hc : Cmp3 N c) (hN : inN N zs) (hb : b ≤ zs.length) (h1 : So c zs a m) (h2 : So c zs m b) (ham : a < m) (hmb : m < b) (hmid : mid = (a + b) / 2)
    (h0 : (mid < m ∧ s0 + b = mid + m ∧ r0 = mid) ∨ (m ≤ mid ∧ s0 = a ∧ r0 = m)) (hs : s0 ≤ s) (hr : s ≤ r0) (he : s + e = mid + m)
    (lo : ∀ k, s0 ≤ k → k < s → lx c (nth zs k) (nth zs (mid + m - 1 - k))) (hi : ∀ k, s ≤ k → k < r0 → lx c (nth zs (mid + m - 1 - k)) (nth zs k)) : CutQ c zs a m b s e := by
  have inn : ∀ k, k < b → 0 ≤ nth zs k ∧ nth zs k < N := fun k hk => hN k (by omega)
  refine ⟨by omega, fun k q k1 k2 q1 q2 => ?_, fun k q k1 k2 q1 q2 => ?_⟩
  · have l1 := lo (s - 1) (by omega) (by omega)
    rw [show mid + m - 1 - (s - 1) = e by omega] at l1
    have l2 : lx c (nth zs k) (nth zs e) := by
      rcases Nat.lt_or_ge k (s - 1) with hk | hk
      · exact lx_trans hc (inn _ (by omega)) (inn _ (by omega)) (inn _ (by omega)) (h1 k (s - 1) k1 hk (by omega)) l1
      · rw [show k = s - 1 by omega]; exact l1
    rcases Nat.lt_or_ge e q with hk | hk
    · exact lx_trans hc (inn _ (by omega)) (inn _ (by omega)) (inn _ (by omega)) l2 (h2 e q (by omega) hk q2)
    · rw [show q = e by omega]; exact l2
  · have l1 := hi s (Nat.le_refl _) (by omega)
    rw [show mid + m - 1 - s = e - 1 by omega] at l1
    have l2 : lx c (nth zs q) (nth zs s) := by
      rcases Nat.lt_or_ge q (e - 1) with hk | hk
      · exact lx_trans hc (inn _ (by omega)) (inn _ (by omega)) (inn _ (by omega)) (h2 q (e - 1) q1 hk (by omega)) l1
      · rw [show q = e - 1 by omega]; exact l1
    rcases Nat.lt_or_ge s k with hk | hk
    · exact lx_trans hc (inn _ (by omega)) (inn _ (by omega)) (inn _ (by omega)) l2 (h1 s k (by omega) hk k2)
    · rw [show k = s by omega]; exact l2
theorem tw_left {c : Int → Int → Int} {ys : List Int} {a s mid e b : Nat} (T : Tw2 c ys a s mid e b) (h : s ≤ a ∨ mid ≤ s) : So c ys a mid := fun i j i1 i2 i3 => by
  rcases h with h | h
  · exact T.s2 i j (by omega) i2 i3
  · exact T.s1 i j i1 i2 (by omega)
theorem tw_right {c : Int → Int → Int} {ys : List Int} {a s mid e b : Nat} (T : Tw2 c ys a s mid e b) (h : e ≤ mid ∨ b ≤ e) : So c ys mid b := fun i j i1 i2 i3 => by
  rcases h with h | h
  · exact T.s4 i j (by omega) i2 i3
  · exact T.s3 i j i1 i2 (by omega)

set_option maxHeartbeats 4000000 in
set_option maxRecDepth 20000 in
theorem symG_any (g n a b N : Nat) (p q : Option Addr) (c : Int → Int → Int) (W w : World) (zs : List Int) (h : Ro g n W w zs) (hc : Cmp3 N c) (hq : CmpQ g N W p q c) (hN : inN N zs) (m : Nat) (ham : a + 1 < m) (hab : m + 1 < b) (hb : b ≤ n) (hn4 : n ≤ 5000) (h1 : So c zs a m) (h2 : So c zs m b) (hl : Le2 zs a m b)
    (ih : ∀ (a' m' b' : Nat) (V : World) (us : List Int), a' < m' → m' < b' → b' ≤ b → b' - a' < b - a → Ro g n W V us → inN N us → So c us a' m' → So c us m' b' → Le2 us a' m' b' → Calls Tryz.prog 111 #[.slice (some ⟨g, 0, none⟩) n n, .int .i64 (a' : Nat), .int .i64 (m' : Nat), .int .i64 (b' : Nat), .func (.func 102) #[] #[.pointer p, .pointer q]] V fun e w' => (∃ v, e = .returned v) ∧ ∃ ys, Ro g n W w' ys ∧ PmQ us ys a' b' ∧ So c ys a' b') :
    Calls Tryz.prog 111 #[.slice (some ⟨g, 0, none⟩) n n, .int .i64 (a : Nat), .int .i64 (m : Nat), .int .i64 (b : Nat), ordV p q] w fun e w' => (∃ v, e = .returned v) ∧ ∃ ys, Ro g n W w' ys ∧ PmQ zs ys a b ∧ So c ys a b := by
  have hrot := fun (x y z : Nat) V us (HV : Ro g n W V us) g1 g2 g3 => rotate_any g n x y z p q W V us HV g1 g2 g3 hn4
  unfold ordV at *
  have HC : Hid (Cmp3 N c) := hc
  have HQ : Hid (CmpQ g N W p q c) := hq
  have HNN : Hid (inN N zs) := hN
  have HZ : Hid (zs.length = n) := h.len
  have HS1 : Hid (So c zs a m) := h1
  have HS2 : Hid (So c zs m b) := h2
  have HLE : Hid (Le2 zs a m b) := hl
  have HIH : Hid (∀ (a' m' b' : Nat) (V : World) (us : List Int), a' < m' → m' < b' → b' ≤ b → b' - a' < b - a → Ro g n W V us → inN N us → So c us a' m' → So c us m' b' → Le2 us a' m' b' → Calls Tryz.prog 111 #[.slice (some ⟨g, 0, none⟩) n n, .int .i64 (a' : Nat), .int .i64 (m' : Nat), .int .i64 (b' : Nat), .func (.func 102) #[] #[.pointer p, .pointer q]] V fun e w' => (∃ v, e = .returned v) ∧ ∃ ys, Ro g n W w' ys ∧ PmQ us ys a' b' ∧ So c ys a' b') := ih
  have HROT : Hid (∀ (x y z : Nat) (V : World) (us : List Int), Ro g n W V us → x < y → y < z → z ≤ n → Calls Tryz.prog 112 #[.slice (some ⟨g, 0, none⟩) n n, .int .i64 (x : Nat), .int .i64 (y : Nat), .int .i64 (z : Nat), .func (.func 102) #[] #[.pointer p, .pointer q]] V fun e w' => (∃ v, e = .returned v) ∧ ∃ ys, Ro g n W w' ys ∧ Mv us ys (rotN x y z)) := hrot
  obtain ⟨am, ham2⟩ : ∃ am : Nat, a + am = m := ⟨m - a, by omega⟩
  obtain ⟨bm, hbm2⟩ : ∃ bm : Nat, m + bm = b := ⟨b - m, by omega⟩
  obtain ⟨mid, hmid⟩ : ∃ mid : Nat, mid = (a + b) / 2 := ⟨_, rfl⟩
  obtain ⟨nn, hnn⟩ : ∃ nn : Nat, nn = mid + m := ⟨_, rfl⟩
  obtain ⟨P, hP⟩ : ∃ P : Nat, P + 1 = nn := ⟨nn - 1, by omega⟩
  obtain ⟨s0, r0, h0⟩ : ∃ s0 r0 : Nat, (mid < m ∧ s0 + b = mid + m ∧ r0 = mid) ∨ (m ≤ mid ∧ s0 = a ∧ r0 = m) := by
    by_cases hm : mid < m
    · exact ⟨mid + m - b, mid, .inl ⟨hm, by omega, rfl⟩⟩
    · exact ⟨a, m, .inr ⟨by omega, rfl, rfl⟩⟩
  have v0 : IntKind.i64.wrap ((m : Int) - (a : Int)) = (am : Int) := (wrapIn _ (by omega)).trans (by omega)
  have t0 : ((am : Int) == 1) = false := by simp; omega
  have v1 : IntKind.i64.wrap ((b : Int) - (m : Int)) = (bm : Int) := (wrapIn _ (by omega)).trans (by omega)
  have t1 : ((bm : Int) == 1) = false := by simp; omega
  have v2 := wrY (z := (a : Int) + (b : Int)) (by omega) (by omega)
  have v3 : ((a : Int) + (b : Int)) / 2 = (mid : Int) := by omega
  have v4 : IntKind.i64.wrap ((mid : Int) + (m : Int)) = (nn : Int) := (wrapIn _ (by omega)).trans (by omega)
  have v5 : IntKind.i64.wrap ((nn : Int) - 1) = (P : Int) := (wrapIn _ (by omega)).trans (by omega)
  have h0b : a ≤ s0 ∧ s0 ≤ r0 ∧ r0 ≤ m ∧ r0 ≤ mid := by omega
  have HM : Hid (mid = (a + b) / 2 ∧ nn = mid + m ∧ P + 1 = nn ∧ ((mid < m ∧ s0 + b = mid + m ∧ r0 = mid) ∨ (m ≤ mid ∧ s0 = a ∧ r0 = m))) := ⟨hmid, hnn, hP, h0⟩
  clear hc hq hN h1 h2 hl ih hrot ham2 hbm2 hmid hnn hP h0
  go_enter Tryz.func111, Tryz.ntmps111
  go_upto_if 140 with fail
  go_cut [20, 21] from 140 to 146 (fun sv rv V => sv = .int .i64 (s0 : Nat) ∧ rv = .int .i64 (r0 : Nat) ∧ V = w)
  case first =>
    obtain ⟨hmid, hnn, hP, h0⟩ := HM.out
    by_cases hm : mid < m
    · have t2 : decide ((mid : Int) < (m : Int)) = true := by simp; omega
      have v6 : IntKind.i64.wrap ((nn : Int) - (b : Int)) = (s0 : Int) := (wrapIn _ (by omega)).trans (by omega)
      have er : r0 = mid := by omega
      clear hmid hnn hP h0
      subst er
      go_wp2
      go_meet
      case rel => exact ⟨rfl, rfl, rfl⟩
    · have t2 : decide ((mid : Int) < (m : Int)) = false := by simp; omega
      have er : r0 = m := by omega
      have es : s0 = a := by omega
      clear hmid hnn hP h0
      subst er es
      go_wp2
      go_meet
      case rel => exact ⟨rfl, rfl, rfl⟩
  case rest =>
    obtain ⟨rfl, rfl, rfl⟩ := hcut
    go_wp2
    go_loopw [20, 21] (fun iv jv V => ∃ (i j : Nat), s0 ≤ i ∧ i ≤ j ∧ j ≤ r0 ∧ iv = .int .i64 (i : Nat) ∧ jv = .int .i64 (j : Nat) ∧ Ro g n W V zs ∧ (∀ k, s0 ≤ k → k < i → lx c (nth zs k) (nth zs (P - k))) ∧ ∀ k, j ≤ k → k < r0 → lx c (nth zs (P - k)) (nth zs k)) (fun iv jv _ => (intOf jv).toNat - (intOf iv).toNat)
    case atStart => exact ⟨s0, r0, Nat.le_refl _, by omega, Nat.le_refl _, rfl, rfl, h, fun k k1 k2 => by omega, fun k k1 k2 => by omega⟩
    case round =>
      obtain ⟨i, j, mi, hij, jb, rfl, rfl, R, LO, HI⟩ := hrel
      by_cases hlt : i < j
      · obtain ⟨d, hd⟩ : ∃ d : Nat, d = (i + j) / 2 := ⟨_, rfl⟩
        obtain ⟨f, hf⟩ : ∃ f : Nat, f = P - d := ⟨_, rfl⟩
        have t1 : decide ((i : Int) < (j : Int)) = true := by simp; omega
        have wa := wrY (z := (i : Int) + (j : Int)) (by omega) (by omega)
        have ed : ((i : Int) + (j : Int)) / 2 = (d : Int) := by omega
        have wd := wrY (z := (d : Int) + 1) (by omega) (by omega)
        have bd1 : i ≤ d := by omega
        have bd2 : d < j := by omega
        have bd : (d : Int) < (n : Int) := by omega
        have hfd : f + d = P ∧ m ≤ f ∧ f < b := by have := HM.out; omega
        have bf : (f : Int) < (n : Int) := by omega
        have wf : IntKind.i64.wrap ((P : Int) - (d : Int)) = (f : Int) := (wrapIn _ (by omega)).trans (by omega)
        have zd := HNN.out d (by rw [HZ.out]; omega)
        have zf := HNN.out f (by rw [HZ.out]; omega)
        have zdf := HLE.out d f (by omega) (by omega) (by omega) (by omega)
        have HF : Hid (f + d = P ∧ m ≤ f ∧ f < b) := hfd
        have HPN : Hid (P ≤ m + mid) := by have := HM.out; unfold Hid; omega
        have KB : Hid (∀ k, s0 ≤ k → k < r0 → m ≤ P - k ∧ P - k < b ∧ k < m ∧ a ≤ k ∧ k ≤ P) := fun k k1 k2 => by have := HM.out; omega
        clear hd hf
        have hcmp : ∀ V, Ro g n W V zs → Calls Tryz.prog 102 #[.int .i64 (nth zs f), .int .i64 (nth zs d), .pointer p, .pointer q] V fun e w' => e = .returned (.int .i64 (c (nth zs f) (nth zs d))) ∧ Ro g n W w' zs := fun V HV =>
          (HQ.out V HV.bel _ _ zf.1 zf.2 zd.1 zd.2).mono fun e w' ⟨e1, e2⟩ => ⟨e1, HV.below e2⟩
        have al : ∀ V, Ro g n W V zs → V.cell? ⟨g, f, none⟩ = some (.int .i64 (nth zs f)) ∧ V.cell? ⟨g, d, none⟩ = some (.int .i64 (nth zs d)) ∧ Ro g n W V zs := fun V HV => ⟨(HV.slot (by omega)).1, (HV.slot (by omega)).1, HV⟩
        clear hfd
        by_cases hcc : c (nth zs f) (nth zs d) < 0
        · have d2 : decide (c (nth zs f) (nth zs d) < 0) = true := by simpa using hcc
          go_wp2
          go_region_held3 (fun V => V.cell? ⟨g, f, none⟩ = some (.int .i64 (nth zs f)) ∧ V.cell? ⟨g, d, none⟩ = some (.int .i64 (nth zs d)) ∧ Ro g n W V zs) (first | exact al _ (by assumption) | exact al _ (Ro.drew (by assumption)))
            (first
              | (go_at_call 102; (with_reducible refine (hcmp _ (‹_ ∧ _ ∧ Ro g n W _ zs›).2.2).mono ?_); rintro e w5 ⟨rfl, R5⟩))
          go_wp2
          go_roundw
          case rel =>
            obtain ⟨f1, f2, f3⟩ := HF.out
            refine ⟨i, d, mi, bd1, by omega, rfl, rfl, R5, LO, fun k k1 k2 => ?_⟩
            obtain ⟨q1, q2, q3, q4, q5⟩ := KB.out k (by omega) k2
            rcases Nat.lt_or_ge d k with hk | hk
            · refine lx_trans HC.out (HNN.out _ (by rw [HZ.out]; omega)) zf (HNN.out k (by rw [HZ.out]; omega)) (HS2.out (P - k) f q1 (by omega) f3) ?_
              exact lx_trans HC.out zf zd (HNN.out k (by rw [HZ.out]; omega)) (.inl hcc) (HS1.out d k (by omega) hk q3)
            · obtain rfl : k = d := by omega
              rw [show P - k = f by omega]
              exact .inl hcc
          case measure => simp [intOf]; omega
        · have d2 : decide (c (nth zs f) (nth zs d) < 0) = false := by simpa using hcc
          have hx : lx c (nth zs d) (nth zs f) := lx_not HC.out zd zf zdf hcc
          have HX : Hid (lx c (nth zs d) (nth zs f)) := hx
          clear hx hcc
          go_wp2
          go_region_held3 (fun V => V.cell? ⟨g, f, none⟩ = some (.int .i64 (nth zs f)) ∧ V.cell? ⟨g, d, none⟩ = some (.int .i64 (nth zs d)) ∧ Ro g n W V zs) (first | exact al _ (by assumption) | exact al _ (Ro.drew (by assumption)))
            (first
              | (go_at_call 102; (with_reducible refine (hcmp _ (‹_ ∧ _ ∧ Ro g n W _ zs›).2.2).mono ?_); rintro e w5 ⟨rfl, R5⟩))
          go_wp2
          go_roundw
          case rel =>
            obtain ⟨f1, f2, f3⟩ := HF.out
            refine ⟨d + 1, j, by omega, by omega, jb, by go_num, rfl, R5, fun k k1 k2 => ?_, HI⟩
            obtain ⟨q1, q2, q3, q4, q5⟩ := KB.out k (by omega) (by omega)
            rcases Nat.lt_or_ge k d with hk | hk
            · refine lx_trans HC.out (HNN.out _ (by rw [HZ.out]; omega)) zf (HNN.out _ (by rw [HZ.out]; omega)) ?_ (HS2.out f (P - k) f2 (by omega) q2)
              exact lx_trans HC.out (HNN.out k (by rw [HZ.out]; omega)) zd zf (HS1.out k d q4 hk (by omega)) HX.out
            · obtain rfl : k = d := by omega
              rw [show P - k = f by omega]
              exact HX.out
          case measure => simp [intOf]; omega
      · obtain rfl : i = j := by omega
        have t1 : decide ((i : Int) < (i : Int)) = false := by simp
        obtain ⟨e, he⟩ : ∃ e : Nat, i + e = nn := ⟨nn - i, by have := HM.out; omega⟩
        have we : IntKind.i64.wrap ((nn : Int) - (i : Int)) = (e : Int) := (wrapIn _ (by have := HM.out; omega)).trans (by omega)
        have CQ : CutQ c zs a m b i e := by
          obtain ⟨hmid, hnn, hP, h0⟩ := HM.out
          have eP : P = mid + m - 1 := by omega
          subst eP
          exact cut_of HC.out HNN.out (by rw [HZ.out]; exact hb) HS1.out HS2.out (by omega) (by omega) hmid h0 mi jb (by omega) LO HI
        obtain ⟨be1, be2, be3, be4⟩ := CQ.b1
        have bm1 : i ≤ mid ∧ mid ≤ e ∧ i + e = mid + m ∧ a < mid ∧ mid < b := by have := HM.out; omega
        have HCQ : Hid (CutQ c zs a m b i e) := CQ
        clear CQ LO HI he
        by_cases x1 : i < m
        · by_cases x2 : i < mid
          · by_cases x3 : a < i
            · by_cases x4 : e < b
              · first
                  | (exfalso; omega)
                  | as_aux_lemma =>
                      obtain ⟨k1, k2, k3, k4, k5⟩ := bm1
                      have y1 : decide ((i : Int) < (m : Int)) = true := by simp; omega
                      have y2 : decide ((m : Int) < (e : Int)) = true := by simp; omega
                      have y3 : decide ((a : Int) < (i : Int)) = true := by simp; omega
                      have y4 : decide ((i : Int) < (mid : Int)) = true := by simp; omega
                      have y5 : decide ((mid : Int) < (e : Int)) = true := by simp; omega
                      have y6 : decide ((e : Int) < (b : Int)) = true := by simp; omega
                      go_wp2_with (first | (go_at_call 112; (with_reducible refine (HROT.out i m e _ _ R (by omega) (by omega) (by omega)).mono ?_); rintro e1 w1 ⟨⟨v1, rfl⟩, ys, R1, M1⟩; have T := cut_two HCQ.out k3 HS1.out HS2.out HLE.out M1; have N1 := HNN.out.mv (rotN_pm (by omega) (by omega) M1) (by rw [HZ.out]; omega)) | (go_at_call 111; (with_reducible refine (HIH.out a i mid _ _ (by omega) (by omega) (by omega) (by omega) R1 N1 T.s1 T.s2 T.l1).mono ?_); rintro e2 w2 ⟨⟨v2, rfl⟩, us, R2, P2, O2⟩; have N2 := N1.mv P2 (by rw [R1.len]; omega)) | (go_at_call 111; (with_reducible refine (HIH.out mid e b _ _ (by omega) (by omega) (by omega) (by omega) R2 N2 (T.s3.out P2 (by omega)) (T.s4.out P2 (by omega)) (T.l2.out P2 (by omega))).mono ?_); rintro e3 w3 ⟨⟨v3, rfl⟩, vs, R3, P3, O3⟩))
                      go_returns
                      obtain ⟨z1, z2⟩ := two_so (c := c) (by omega) (by omega) T.x P2 O2 P3 O3
                      exact ⟨⟨_, rfl⟩, vs, R3, ((rotN_pm (by omega) (by omega) M1).wide (by omega) (by omega)).trans z1, z2⟩
              · first
                  | (exfalso; omega)
                  | as_aux_lemma =>
                      obtain ⟨k1, k2, k3, k4, k5⟩ := bm1
                      have y1 : decide ((i : Int) < (m : Int)) = true := by simp; omega
                      have y2 : decide ((m : Int) < (e : Int)) = true := by simp; omega
                      have y3 : decide ((a : Int) < (i : Int)) = true := by simp; omega
                      have y4 : decide ((i : Int) < (mid : Int)) = true := by simp; omega
                      have y5 : decide ((mid : Int) < (e : Int)) = true := by simp; omega
                      have y6 : decide ((e : Int) < (b : Int)) = false := by simp; omega
                      go_wp2_with (first | (go_at_call 112; (with_reducible refine (HROT.out i m e _ _ R (by omega) (by omega) (by omega)).mono ?_); rintro e1 w1 ⟨⟨v1, rfl⟩, ys, R1, M1⟩; have T := cut_two HCQ.out k3 HS1.out HS2.out HLE.out M1; have N1 := HNN.out.mv (rotN_pm (by omega) (by omega) M1) (by rw [HZ.out]; omega)) | (go_at_call 111; (with_reducible refine (HIH.out a i mid _ _ (by omega) (by omega) (by omega) (by omega) R1 N1 T.s1 T.s2 T.l1).mono ?_); rintro e2 w2 ⟨⟨v2, rfl⟩, us, R2, P2, O2⟩; have N2 := N1.mv P2 (by rw [R1.len]; omega)))
                      go_returns
                      obtain ⟨z1, z2⟩ := two_so (c := c) (by omega) (by omega) T.x P2 O2 (PmQ.refl us _ _) (So.out (tw_right T (by omega)) P2 (by omega))
                      exact ⟨⟨_, rfl⟩, us, R2, ((rotN_pm (by omega) (by omega) M1).wide (by omega) (by omega)).trans z1, z2⟩
            · by_cases x4 : e < b
              · first
                  | (exfalso; omega)
                  | as_aux_lemma =>
                      obtain ⟨k1, k2, k3, k4, k5⟩ := bm1
                      have y1 : decide ((i : Int) < (m : Int)) = true := by simp; omega
                      have y2 : decide ((m : Int) < (e : Int)) = true := by simp; omega
                      have y3 : decide ((a : Int) < (i : Int)) = false := by simp; omega
                      have y4 : decide ((i : Int) < (mid : Int)) = true := by simp; omega
                      have y5 : decide ((mid : Int) < (e : Int)) = true := by simp; omega
                      have y6 : decide ((e : Int) < (b : Int)) = true := by simp; omega
                      go_wp2_with (first | (go_at_call 112; (with_reducible refine (HROT.out i m e _ _ R (by omega) (by omega) (by omega)).mono ?_); rintro e1 w1 ⟨⟨v1, rfl⟩, ys, R1, M1⟩; have T := cut_two HCQ.out k3 HS1.out HS2.out HLE.out M1; have N1 := HNN.out.mv (rotN_pm (by omega) (by omega) M1) (by rw [HZ.out]; omega)) | (go_at_call 111; (with_reducible refine (HIH.out mid e b _ _ (by omega) (by omega) (by omega) (by omega) R1 N1 T.s3 T.s4 T.l2).mono ?_); rintro e3 w3 ⟨⟨v3, rfl⟩, vs, R3, P3, O3⟩))
                      go_returns
                      obtain ⟨z1, z2⟩ := two_so (c := c) (by omega) (by omega) T.x (PmQ.refl ys _ _) (tw_left T (by omega)) P3 O3
                      exact ⟨⟨_, rfl⟩, vs, R3, ((rotN_pm (by omega) (by omega) M1).wide (by omega) (by omega)).trans z1, z2⟩
              · first
                  | (exfalso; omega)
                  | as_aux_lemma =>
                      obtain ⟨k1, k2, k3, k4, k5⟩ := bm1
                      have y1 : decide ((i : Int) < (m : Int)) = true := by simp; omega
                      have y2 : decide ((m : Int) < (e : Int)) = true := by simp; omega
                      have y3 : decide ((a : Int) < (i : Int)) = false := by simp; omega
                      have y4 : decide ((i : Int) < (mid : Int)) = true := by simp; omega
                      have y5 : decide ((mid : Int) < (e : Int)) = true := by simp; omega
                      have y6 : decide ((e : Int) < (b : Int)) = false := by simp; omega
                      go_wp2_with (first | (go_at_call 112; (with_reducible refine (HROT.out i m e _ _ R (by omega) (by omega) (by omega)).mono ?_); rintro e1 w1 ⟨⟨v1, rfl⟩, ys, R1, M1⟩; have T := cut_two HCQ.out k3 HS1.out HS2.out HLE.out M1; have N1 := HNN.out.mv (rotN_pm (by omega) (by omega) M1) (by rw [HZ.out]; omega)))
                      go_returns
                      obtain ⟨z1, z2⟩ := two_so (c := c) (by omega) (by omega) T.x (PmQ.refl ys _ _) (tw_left T (by omega)) (PmQ.refl ys _ _) (tw_right T (by omega))
                      exact ⟨⟨_, rfl⟩, ys, R1, ((rotN_pm (by omega) (by omega) M1).wide (by omega) (by omega)).trans z1, z2⟩
          · by_cases x3 : a < i
            · by_cases x4 : e < b
              · first
                  | (exfalso; omega)
                  | as_aux_lemma =>
                      obtain ⟨k1, k2, k3, k4, k5⟩ := bm1
                      have y1 : decide ((i : Int) < (m : Int)) = true := by simp; omega
                      have y2 : decide ((m : Int) < (e : Int)) = false := by simp; omega
                      have y3 : decide ((a : Int) < (i : Int)) = true := by simp; omega
                      have y4 : decide ((i : Int) < (mid : Int)) = false := by simp; omega
                      have y5 : decide ((mid : Int) < (e : Int)) = true := by simp; omega
                      have y6 : decide ((e : Int) < (b : Int)) = true := by simp; omega
                      have M1 : Mv zs zs (rotN i m e) := Mv.refl _ (rotN_id (by omega) (by omega) (by omega))
                      have T := cut_two HCQ.out k3 HS1.out HS2.out HLE.out M1
                      have N1 := HNN.out
                      have R1 := R
                      go_wp2_with (first | (go_at_call 111; (with_reducible refine (HIH.out mid e b _ _ (by omega) (by omega) (by omega) (by omega) R1 N1 T.s3 T.s4 T.l2).mono ?_); rintro e3 w3 ⟨⟨v3, rfl⟩, vs, R3, P3, O3⟩))
                      go_returns
                      obtain ⟨z1, z2⟩ := two_so (c := c) (by omega) (by omega) T.x (PmQ.refl zs _ _) (tw_left T (by omega)) P3 O3
                      exact ⟨⟨_, rfl⟩, vs, R3, ((rotN_pm (by omega) (by omega) M1).wide (by omega) (by omega)).trans z1, z2⟩
              · first
                  | (exfalso; omega)
                  | as_aux_lemma =>
                      obtain ⟨k1, k2, k3, k4, k5⟩ := bm1
                      have y1 : decide ((i : Int) < (m : Int)) = true := by simp; omega
                      have y2 : decide ((m : Int) < (e : Int)) = false := by simp; omega
                      have y3 : decide ((a : Int) < (i : Int)) = true := by simp; omega
                      have y4 : decide ((i : Int) < (mid : Int)) = false := by simp; omega
                      have y5 : decide ((mid : Int) < (e : Int)) = true := by simp; omega
                      have y6 : decide ((e : Int) < (b : Int)) = false := by simp; omega
                      have M1 : Mv zs zs (rotN i m e) := Mv.refl _ (rotN_id (by omega) (by omega) (by omega))
                      have T := cut_two HCQ.out k3 HS1.out HS2.out HLE.out M1
                      have N1 := HNN.out
                      have R1 := R
                      go_wp2
                      go_returns
                      obtain ⟨z1, z2⟩ := two_so (c := c) (by omega) (by omega) T.x (PmQ.refl zs _ _) (tw_left T (by omega)) (PmQ.refl zs _ _) (tw_right T (by omega))
                      exact ⟨⟨_, rfl⟩, zs, R1, ((rotN_pm (by omega) (by omega) M1).wide (by omega) (by omega)).trans z1, z2⟩
            · by_cases x4 : e < b
              · first
                  | (exfalso; omega)
                  | as_aux_lemma =>
                      obtain ⟨k1, k2, k3, k4, k5⟩ := bm1
                      have y1 : decide ((i : Int) < (m : Int)) = true := by simp; omega
                      have y2 : decide ((m : Int) < (e : Int)) = false := by simp; omega
                      have y3 : decide ((a : Int) < (i : Int)) = false := by simp; omega
                      have y4 : decide ((i : Int) < (mid : Int)) = false := by simp; omega
                      have y5 : decide ((mid : Int) < (e : Int)) = true := by simp; omega
                      have y6 : decide ((e : Int) < (b : Int)) = true := by simp; omega
                      have M1 : Mv zs zs (rotN i m e) := Mv.refl _ (rotN_id (by omega) (by omega) (by omega))
                      have T := cut_two HCQ.out k3 HS1.out HS2.out HLE.out M1
                      have N1 := HNN.out
                      have R1 := R
                      go_wp2_with (first | (go_at_call 111; (with_reducible refine (HIH.out mid e b _ _ (by omega) (by omega) (by omega) (by omega) R1 N1 T.s3 T.s4 T.l2).mono ?_); rintro e3 w3 ⟨⟨v3, rfl⟩, vs, R3, P3, O3⟩))
                      go_returns
                      obtain ⟨z1, z2⟩ := two_so (c := c) (by omega) (by omega) T.x (PmQ.refl zs _ _) (tw_left T (by omega)) P3 O3
                      exact ⟨⟨_, rfl⟩, vs, R3, ((rotN_pm (by omega) (by omega) M1).wide (by omega) (by omega)).trans z1, z2⟩
              · first
                  | (exfalso; omega)
                  | as_aux_lemma =>
                      obtain ⟨k1, k2, k3, k4, k5⟩ := bm1
                      have y1 : decide ((i : Int) < (m : Int)) = true := by simp; omega
                      have y2 : decide ((m : Int) < (e : Int)) = false := by simp; omega
                      have y3 : decide ((a : Int) < (i : Int)) = false := by simp; omega
                      have y4 : decide ((i : Int) < (mid : Int)) = false := by simp; omega
                      have y5 : decide ((mid : Int) < (e : Int)) = true := by simp; omega
                      have y6 : decide ((e : Int) < (b : Int)) = false := by simp; omega
                      have M1 : Mv zs zs (rotN i m e) := Mv.refl _ (rotN_id (by omega) (by omega) (by omega))
                      have T := cut_two HCQ.out k3 HS1.out HS2.out HLE.out M1
                      have N1 := HNN.out
                      have R1 := R
                      go_wp2
                      go_returns
                      obtain ⟨z1, z2⟩ := two_so (c := c) (by omega) (by omega) T.x (PmQ.refl zs _ _) (tw_left T (by omega)) (PmQ.refl zs _ _) (tw_right T (by omega))
                      exact ⟨⟨_, rfl⟩, zs, R1, ((rotN_pm (by omega) (by omega) M1).wide (by omega) (by omega)).trans z1, z2⟩
        · by_cases x2 : i < mid
          · by_cases x3 : a < i
            · by_cases x4 : e < b
              · first
                  | (exfalso; omega)
                  | as_aux_lemma =>
                      obtain ⟨k1, k2, k3, k4, k5⟩ := bm1
                      have y1 : decide ((i : Int) < (m : Int)) = false := by simp; omega
                      have y2 : decide ((m : Int) < (e : Int)) = true := by simp; omega
                      have y3 : decide ((a : Int) < (i : Int)) = true := by simp; omega
                      have y4 : decide ((i : Int) < (mid : Int)) = true := by simp; omega
                      have y5 : decide ((mid : Int) < (e : Int)) = false := by simp; omega
                      have y6 : decide ((e : Int) < (b : Int)) = true := by simp; omega
                      have M1 : Mv zs zs (rotN i m e) := Mv.refl _ (rotN_id (by omega) (by omega) (by omega))
                      have T := cut_two HCQ.out k3 HS1.out HS2.out HLE.out M1
                      have N1 := HNN.out
                      have R1 := R
                      go_wp2_with (first | (go_at_call 111; (with_reducible refine (HIH.out a i mid _ _ (by omega) (by omega) (by omega) (by omega) R1 N1 T.s1 T.s2 T.l1).mono ?_); rintro e2 w2 ⟨⟨v2, rfl⟩, us, R2, P2, O2⟩; have N2 := N1.mv P2 (by rw [R1.len]; omega)))
                      go_returns
                      obtain ⟨z1, z2⟩ := two_so (c := c) (by omega) (by omega) T.x P2 O2 (PmQ.refl us _ _) (So.out (tw_right T (by omega)) P2 (by omega))
                      exact ⟨⟨_, rfl⟩, us, R2, ((rotN_pm (by omega) (by omega) M1).wide (by omega) (by omega)).trans z1, z2⟩
              · first
                  | (exfalso; omega)
                  | as_aux_lemma =>
                      obtain ⟨k1, k2, k3, k4, k5⟩ := bm1
                      have y1 : decide ((i : Int) < (m : Int)) = false := by simp; omega
                      have y2 : decide ((m : Int) < (e : Int)) = true := by simp; omega
                      have y3 : decide ((a : Int) < (i : Int)) = true := by simp; omega
                      have y4 : decide ((i : Int) < (mid : Int)) = true := by simp; omega
                      have y5 : decide ((mid : Int) < (e : Int)) = false := by simp; omega
                      have y6 : decide ((e : Int) < (b : Int)) = false := by simp; omega
                      have M1 : Mv zs zs (rotN i m e) := Mv.refl _ (rotN_id (by omega) (by omega) (by omega))
                      have T := cut_two HCQ.out k3 HS1.out HS2.out HLE.out M1
                      have N1 := HNN.out
                      have R1 := R
                      go_wp2_with (first | (go_at_call 111; (with_reducible refine (HIH.out a i mid _ _ (by omega) (by omega) (by omega) (by omega) R1 N1 T.s1 T.s2 T.l1).mono ?_); rintro e2 w2 ⟨⟨v2, rfl⟩, us, R2, P2, O2⟩; have N2 := N1.mv P2 (by rw [R1.len]; omega)))
                      go_returns
                      obtain ⟨z1, z2⟩ := two_so (c := c) (by omega) (by omega) T.x P2 O2 (PmQ.refl us _ _) (So.out (tw_right T (by omega)) P2 (by omega))
                      exact ⟨⟨_, rfl⟩, us, R2, ((rotN_pm (by omega) (by omega) M1).wide (by omega) (by omega)).trans z1, z2⟩
            · by_cases x4 : e < b
              · first
                  | (exfalso; omega)
                  | as_aux_lemma =>
                      obtain ⟨k1, k2, k3, k4, k5⟩ := bm1
                      have y1 : decide ((i : Int) < (m : Int)) = false := by simp; omega
                      have y2 : decide ((m : Int) < (e : Int)) = true := by simp; omega
                      have y3 : decide ((a : Int) < (i : Int)) = false := by simp; omega
                      have y4 : decide ((i : Int) < (mid : Int)) = true := by simp; omega
                      have y5 : decide ((mid : Int) < (e : Int)) = false := by simp; omega
                      have y6 : decide ((e : Int) < (b : Int)) = true := by simp; omega
                      have M1 : Mv zs zs (rotN i m e) := Mv.refl _ (rotN_id (by omega) (by omega) (by omega))
                      have T := cut_two HCQ.out k3 HS1.out HS2.out HLE.out M1
                      have N1 := HNN.out
                      have R1 := R
                      go_wp2
                      go_returns
                      obtain ⟨z1, z2⟩ := two_so (c := c) (by omega) (by omega) T.x (PmQ.refl zs _ _) (tw_left T (by omega)) (PmQ.refl zs _ _) (tw_right T (by omega))
                      exact ⟨⟨_, rfl⟩, zs, R1, ((rotN_pm (by omega) (by omega) M1).wide (by omega) (by omega)).trans z1, z2⟩
              · first
                  | (exfalso; omega)
                  | as_aux_lemma =>
                      obtain ⟨k1, k2, k3, k4, k5⟩ := bm1
                      have y1 : decide ((i : Int) < (m : Int)) = false := by simp; omega
                      have y2 : decide ((m : Int) < (e : Int)) = true := by simp; omega
                      have y3 : decide ((a : Int) < (i : Int)) = false := by simp; omega
                      have y4 : decide ((i : Int) < (mid : Int)) = true := by simp; omega
                      have y5 : decide ((mid : Int) < (e : Int)) = false := by simp; omega
                      have y6 : decide ((e : Int) < (b : Int)) = false := by simp; omega
                      have M1 : Mv zs zs (rotN i m e) := Mv.refl _ (rotN_id (by omega) (by omega) (by omega))
                      have T := cut_two HCQ.out k3 HS1.out HS2.out HLE.out M1
                      have N1 := HNN.out
                      have R1 := R
                      go_wp2
                      go_returns
                      obtain ⟨z1, z2⟩ := two_so (c := c) (by omega) (by omega) T.x (PmQ.refl zs _ _) (tw_left T (by omega)) (PmQ.refl zs _ _) (tw_right T (by omega))
                      exact ⟨⟨_, rfl⟩, zs, R1, ((rotN_pm (by omega) (by omega) M1).wide (by omega) (by omega)).trans z1, z2⟩
          · by_cases x3 : a < i
            · by_cases x4 : e < b
              · first
                  | (exfalso; omega)
                  | as_aux_lemma =>
                      obtain ⟨k1, k2, k3, k4, k5⟩ := bm1
                      have y1 : decide ((i : Int) < (m : Int)) = false := by simp; omega
                      have y2 : decide ((m : Int) < (e : Int)) = false := by simp; omega
                      have y3 : decide ((a : Int) < (i : Int)) = true := by simp; omega
                      have y4 : decide ((i : Int) < (mid : Int)) = false := by simp; omega
                      have y5 : decide ((mid : Int) < (e : Int)) = false := by simp; omega
                      have y6 : decide ((e : Int) < (b : Int)) = true := by simp; omega
                      have M1 : Mv zs zs (rotN i m e) := Mv.refl _ (rotN_id (by omega) (by omega) (by omega))
                      have T := cut_two HCQ.out k3 HS1.out HS2.out HLE.out M1
                      have N1 := HNN.out
                      have R1 := R
                      go_wp2
                      go_returns
                      obtain ⟨z1, z2⟩ := two_so (c := c) (by omega) (by omega) T.x (PmQ.refl zs _ _) (tw_left T (by omega)) (PmQ.refl zs _ _) (tw_right T (by omega))
                      exact ⟨⟨_, rfl⟩, zs, R1, ((rotN_pm (by omega) (by omega) M1).wide (by omega) (by omega)).trans z1, z2⟩
              · first
                  | (exfalso; omega)
                  | as_aux_lemma =>
                      obtain ⟨k1, k2, k3, k4, k5⟩ := bm1
                      have y1 : decide ((i : Int) < (m : Int)) = false := by simp; omega
                      have y2 : decide ((m : Int) < (e : Int)) = false := by simp; omega
                      have y3 : decide ((a : Int) < (i : Int)) = true := by simp; omega
                      have y4 : decide ((i : Int) < (mid : Int)) = false := by simp; omega
                      have y5 : decide ((mid : Int) < (e : Int)) = false := by simp; omega
                      have y6 : decide ((e : Int) < (b : Int)) = false := by simp; omega
                      have M1 : Mv zs zs (rotN i m e) := Mv.refl _ (rotN_id (by omega) (by omega) (by omega))
                      have T := cut_two HCQ.out k3 HS1.out HS2.out HLE.out M1
                      have N1 := HNN.out
                      have R1 := R
                      go_wp2
                      go_returns
                      obtain ⟨z1, z2⟩ := two_so (c := c) (by omega) (by omega) T.x (PmQ.refl zs _ _) (tw_left T (by omega)) (PmQ.refl zs _ _) (tw_right T (by omega))
                      exact ⟨⟨_, rfl⟩, zs, R1, ((rotN_pm (by omega) (by omega) M1).wide (by omega) (by omega)).trans z1, z2⟩
            · by_cases x4 : e < b
              · first
                  | (exfalso; omega)
                  | as_aux_lemma =>
                      obtain ⟨k1, k2, k3, k4, k5⟩ := bm1
                      have y1 : decide ((i : Int) < (m : Int)) = false := by simp; omega
                      have y2 : decide ((m : Int) < (e : Int)) = false := by simp; omega
                      have y3 : decide ((a : Int) < (i : Int)) = false := by simp; omega
                      have y4 : decide ((i : Int) < (mid : Int)) = false := by simp; omega
                      have y5 : decide ((mid : Int) < (e : Int)) = false := by simp; omega
                      have y6 : decide ((e : Int) < (b : Int)) = true := by simp; omega
                      have M1 : Mv zs zs (rotN i m e) := Mv.refl _ (rotN_id (by omega) (by omega) (by omega))
                      have T := cut_two HCQ.out k3 HS1.out HS2.out HLE.out M1
                      have N1 := HNN.out
                      have R1 := R
                      go_wp2
                      go_returns
                      obtain ⟨z1, z2⟩ := two_so (c := c) (by omega) (by omega) T.x (PmQ.refl zs _ _) (tw_left T (by omega)) (PmQ.refl zs _ _) (tw_right T (by omega))
                      exact ⟨⟨_, rfl⟩, zs, R1, ((rotN_pm (by omega) (by omega) M1).wide (by omega) (by omega)).trans z1, z2⟩
              · first
                  | (exfalso; omega)
                  | as_aux_lemma =>
                      obtain ⟨k1, k2, k3, k4, k5⟩ := bm1
                      have y1 : decide ((i : Int) < (m : Int)) = false := by simp; omega
                      have y2 : decide ((m : Int) < (e : Int)) = false := by simp; omega
                      have y3 : decide ((a : Int) < (i : Int)) = false := by simp; omega
                      have y4 : decide ((i : Int) < (mid : Int)) = false := by simp; omega
                      have y5 : decide ((mid : Int) < (e : Int)) = false := by simp; omega
                      have y6 : decide ((e : Int) < (b : Int)) = false := by simp; omega
                      have M1 : Mv zs zs (rotN i m e) := Mv.refl _ (rotN_id (by omega) (by omega) (by omega))
                      have T := cut_two HCQ.out k3 HS1.out HS2.out HLE.out M1
                      have N1 := HNN.out
                      have R1 := R
                      go_wp2
                      go_returns
                      obtain ⟨z1, z2⟩ := two_so (c := c) (by omega) (by omega) T.x (PmQ.refl zs _ _) (tw_left T (by omega)) (PmQ.refl zs _ _) (tw_right T (by omega))
                      exact ⟨⟨_, rfl⟩, zs, R1, ((rotN_pm (by omega) (by omega) M1).wide (by omega) (by omega)).trans z1, z2⟩

theorem sym_any (g n a b N : Nat) (p q : Option Addr) (c : Int → Int → Int) (W w : World) (zs : List Int) (h : Ro g n W w zs) (hc : Cmp3 N c) (hq : CmpQ g N W p q c) (hN : inN N zs) (m : Nat) (ham : a < m) (hab : m < b) (hb : b ≤ n) (hn4 : n ≤ 5000) (h1 : So c zs a m) (h2 : So c zs m b) (hl : Le2 zs a m b) :
    Calls Tryz.prog 111 #[.slice (some ⟨g, 0, none⟩) n n, .int .i64 (a : Nat), .int .i64 (m : Nat), .int .i64 (b : Nat), ordV p q] w fun e w' => (∃ v, e = .returned v) ∧ ∃ ys, Ro g n W w' ys ∧ PmQ zs ys a b ∧ So c ys a b := by
  have key : ∀ D a' m' b' V us, b' - a' ≤ D → a' < m' → m' < b' → b' ≤ n → Ro g n W V us → inN N us → So c us a' m' → So c us m' b' → Le2 us a' m' b' → Calls Tryz.prog 111 #[.slice (some ⟨g, 0, none⟩) n n, .int .i64 (a' : Nat), .int .i64 (m' : Nat), .int .i64 (b' : Nat), ordV p q] V fun e w' => (∃ v, e = .returned v) ∧ ∃ ys, Ro g n W w' ys ∧ PmQ us ys a' b' ∧ So c ys a' b' := by
    intro D
    induction D with
    | zero => intro a' m' b' V us hD; omega
    | succ D ih =>
      intro a' m' b' V us hD x1 x2 x3 R N1 s1 s2 l
      by_cases e1 : a' + 1 = m'
      · exact symL_any g n a' b' N p q c W V us R hc hq N1 m' e1 x2 x3 hn4 s2 l
      · by_cases e2 : m' + 1 = b'
        · exact symR_any g n a' b' N p q c W V us R hc hq N1 m' (by omega) e2 x3 hn4 s1 l
        · exact symG_any g n a' b' N p q c W V us R hc hq N1 m' (by omega) (by omega) x3 hn4 s1 s2 l (fun a2 m2 b2 V2 us2 y1 y2 y3 y4 y5 y6 y7 y8 y9 => ih a2 m2 b2 V2 us2 (by omega) y1 y2 (by omega) y5 y6 y7 y8 y9)
  exact key _ a m b w zs (Nat.le_refl _) ham hab hb h hN h1 h2 hl
end Go.Proofs.YtmepcenbaohcoaaGreat
