
/- Contracts of the sort that package seek hands its places to: the whole of it. -/

import Derived.Test.YtmepcenbaohcoaaGreatYD

namespace Go.Proofs.YtmepcenbaohcoaaGreat

open Go.RowKit

set_option linter.unusedVariables false

def InsQ (zs ys : List Int) (a b : Nat) : Prop := ∀ j, a ≤ j → j < b → ∃ i, a ≤ i ∧ i < b ∧ nth ys j = nth zs i
/-- From a to b the row rises, and holds what stood there at first. -/
def BlkQ (c : Int → Int → Int) (zs ys : List Int) (a b : Nat) : Prop := So c ys a b ∧ InsQ zs ys a b
theorem BlkQ.same {c : Int → Int → Int} {zs ys us : List Int} {a b : Nat} (h : BlkQ c zs ys a b) (e : ∀ j, a ≤ j → j < b → nth us j = nth ys j) : BlkQ c zs us a b :=
  ⟨fun i j h1 h2 h3 => by rw [e i h1 (by omega), e j (by omega) h3]; exact h.1 i j h1 h2 h3, fun j h1 h2 => by rw [e j h1 h2]; exact h.2 j h1 h2⟩
theorem BlkQ.none (c : Int → Int → Int) (zs ys : List Int) {a b : Nat} (h : b ≤ a) : BlkQ c zs ys a b := ⟨fun i j h1 h2 h3 => by omega, fun j h1 h2 => by omega⟩
/-- Blocks of L up to n. -/
def BksQ (c : Int → Int → Int) (zs ys : List Int) (L n : Nat) : Prop := ∀ u, BlkQ c zs ys (u * L) (min (u * L + L) n)
/-- Two neighbouring blocks in a row that goes on as they were. -/
theorem blk_two {c : Int → Int → Int} {zs ys : List Int} {a m b n : Nat} (hmb : m ≤ b) (h1 : BlkQ c zs ys a m) (h2 : BlkQ c zs ys m b) (hb : b ≤ n) (inc : ∀ i j, i < j → j < n → nth zs i < nth zs j) : Le2 ys a m b := fun i j i1 i2 j1 j2 => by
  obtain ⟨x, x1, x2, e1⟩ := h1.2 i i1 i2
  obtain ⟨y, y1, y2, e2⟩ := h2.2 j j1 j2
  rw [e1, e2]
  exact inc x y (by omega) (by omega)
theorem blk_join {c : Int → Int → Int} {zs ys us : List Int} {a m b : Nat} (ham : a ≤ m) (hmb : m ≤ b) (h1 : BlkQ c zs ys a m) (h2 : BlkQ c zs ys m b) (p : PmQ ys us a b) (s : So c us a b) : BlkQ c zs us a b := ⟨s, fun j j1 j2 => by
  obtain ⟨i, i1, i2, e⟩ := p.ins j j1 j2
  rcases Nat.lt_or_ge i m with hi | hi
  · obtain ⟨x, x1, x2, e1⟩ := h1.2 i i1 hi
    exact ⟨x, x1, by omega, e.trans e1⟩
  · obtain ⟨x, x1, x2, e1⟩ := h2.2 i hi i2
    exact ⟨x, by omega, x2, e.trans e1⟩⟩
theorem mul_two (t L : Nat) : t * (2 * L) = 2 * t * L := by rw [Nat.mul_comm 2 t, Nat.mul_assoc]
theorem mul_two1 (t L : Nat) : (2 * t + 1) * L = t * (2 * L) + L := by rw [Nat.succ_mul, mul_two]

set_option maxHeartbeats 4000000 in
set_option maxRecDepth 20000 in
theorem stable_any (g n : Nat) (p q : Option Addr) (c : Int → Int → Int) (W w : World) (zs : List Int) (h : Ro g n W w zs) (N : Nat) (hc : Cmp3 N c) (hq : CmpQ g N W p q c) (hN : inN N zs) (hn4 : n ≤ 5000) (inc : ∀ i j, i < j → j < n → nth zs i < nth zs j) :
    Calls Tryz.prog 108 #[.slice (some ⟨g, 0, none⟩) n n, .int .i64 (n : Nat), ordV p q] w fun e w' => (∃ v, e = .returned v) ∧ ∃ ys, Ro g n W w' ys ∧ PmQ zs ys 0 n ∧ So c ys 0 n := by
  have hin : Hid (∀ a b V us, Ro g n W V us → inN N us → a ≤ b → b ≤ n → (∀ i j, a ≤ i → i < j → j < b → nth us i < nth us j) → Calls Tryz.prog 110 #[.slice (some ⟨g, 0, none⟩) n n, .int .i64 (a : Nat), .int .i64 (b : Nat), ordV p q] V fun e w' => (∃ v, e = .returned v) ∧ ∃ ys, Ro g n W w' ys ∧ PmQ us ys a b ∧ So c ys a b) :=
    fun a b V us R N1 h1 h2 h3 => insert_any g n a b N p q c W V us R hc hq N1 h1 h2 hn4 h3
  have hsy : Hid (∀ a m b V us, Ro g n W V us → inN N us → a < m → m < b → b ≤ n → So c us a m → So c us m b → Le2 us a m b → Calls Tryz.prog 111 #[.slice (some ⟨g, 0, none⟩) n n, .int .i64 (a : Nat), .int .i64 (m : Nat), .int .i64 (b : Nat), ordV p q] V fun e w' => (∃ v, e = .returned v) ∧ ∃ ys, Ro g n W w' ys ∧ PmQ us ys a b ∧ So c ys a b) :=
    fun a m b V us R N1 h1 h2 h3 h4 h5 h6 => sym_any g n a b N p q c W V us R hc hq N1 m h1 h2 h3 hn4 h4 h5 h6
  unfold ordV at *
  have HI : Hid (∀ i j, i < j → j < n → nth zs i < nth zs j) := inc
  have HNN : Hid (inN N zs) := hN
  have HZ : Hid (zs.length = n) := h.len
  clear hc hq hN inc
  go_enter Tryz.func108, Tryz.ntmps108
  go_wp2
  go_loopw [7, 8] (fun av bv V => ∃ (t a b : Nat) (ys : List Int), a = t * 20 ∧ b = a + 20 ∧ a ≤ n ∧ av = .int .i64 (a : Nat) ∧ bv = .int .i64 (b : Nat) ∧ Ro g n W V ys ∧ PmQ zs ys 0 n ∧ (∀ u, u < t → BlkQ c zs ys (u * 20) (u * 20 + 20)) ∧ ∀ j, a ≤ j → nth ys j = nth zs j) (fun av _ _ => n - (intOf av).toNat)
  case atStart => exact ⟨0, 0, 20, zs, rfl, rfl, by omega, rfl, rfl, h, PmQ.refl _ _ _, fun u hu => by omega, fun j _ => rfl⟩
  case round =>
    obtain ⟨t, a, b, ys, ha, hb, han, rfl, rfl, R, P, B, E⟩ := hrel
    have YN := HNN.out.mv P (by rw [HZ.out]; exact Nat.le_refl _)
    have wb : IntKind.i64.wrap ((b : Int) + 20) = ((b + 20 : Nat) : Int) := (wrapIn _ (by omega)).trans (by omega)
    by_cases hle : b ≤ n
    · have t1 : decide ((b : Int) ≤ (n : Int)) = true := by simp; omega
      have HA : Hid (a = t * 20 ∧ b = a + 20) := ⟨ha, hb⟩
      have hcl := hin.out a b _ _ R YN (by omega) hle (fun i j i1 i2 i3 => by rw [E i (by omega), E j (by omega)]; exact HI.out i j i2 (by omega))
      clear ha hb
      go_wp2_with (go_at_call 110; (with_reducible refine hcl.mono ?_); rintro e w2 ⟨⟨v, rfl⟩, us, R2, P2, S2⟩)
      go_roundw
      case rel =>
        obtain ⟨ha, hb⟩ := HA.out
        refine ⟨t + 1, b, b + 20, us, by omega, rfl, hle, rfl, rfl, R2, P.trans (P2.wide (by omega) hle), fun u hu => ?_, fun j hj => by rw [P2.out j (by omega), E j (by omega)]⟩
        rcases Nat.lt_or_ge u t with hu2 | hu2
        · exact (B u hu2).same (fun j j1 j2 => P2.out j (by omega))
        · obtain rfl : u = t := by omega
          rw [← ha, ← hb]
          exact ⟨S2, fun j j1 j2 => by
            obtain ⟨i, i1, i2, e⟩ := P2.ins j j1 j2
            exact ⟨i, i1, i2, by rw [e, E i i1]⟩⟩
      case measure => have := HA.out; simp [intOf]; omega
    · have t1 : decide ((b : Int) ≤ (n : Int)) = false := by simp; omega
      have hcl := hin.out a n _ _ R YN (by omega) (Nat.le_refl _) (fun i j i1 i2 i3 => by rw [E i (by omega), E j (by omega)]; exact HI.out i j i2 i3)
      have HB : Hid (∀ us, PmQ ys us a n → So c us a n → PmQ zs us 0 n ∧ BksQ c zs us 20 n) := fun us P2 S2 => by
        refine ⟨P.trans (P2.wide (by omega) (Nat.le_refl _)), fun u => ?_⟩
        rcases Nat.lt_or_ge u t with hu2 | hu2
        · rw [show min (u * 20 + 20) n = u * 20 + 20 by omega]
          exact (B u hu2).same (fun j j1 j2 => P2.out j (by omega))
        · rcases Nat.lt_or_ge t u with hu3 | hu3
          · exact BlkQ.none _ _ _ (by omega)
          · obtain rfl : u = t := by omega
            rw [← ha, show min (a + 20) n = n by omega]
            exact ⟨S2, fun j j1 j2 => by
              obtain ⟨i, i1, i2, e⟩ := P2.ins j j1 j2
              exact ⟨i, i1, i2, by rw [e, E i i1]⟩⟩
      clear ha hb B E P YN
      go_wp2_with (go_at_call 110; (with_reducible refine hcl.mono ?_); rintro e w2 ⟨⟨v, rfl⟩, us, R2, P2, S2⟩)
      obtain ⟨P3, B3⟩ := HB.out us P2 S2
      clear HB P2 S2 hcl
      go_loopw [6] (fun lv V => ∃ (L : Nat) (xs : List Int), 20 ≤ L ∧ L ≤ 20 + 2 * n ∧ lv = .int .i64 (L : Nat) ∧ Ro g n W V xs ∧ PmQ zs xs 0 n ∧ BksQ c zs xs L n) (fun lv _ => n - (intOf lv).toNat)
      case atStart => exact ⟨20, us, Nat.le_refl _, by omega, rfl, R2, P3, B3⟩
      case round =>
        obtain ⟨L, xs, L1, L2, rfl, RX, PX, BX⟩ := hrel
        clear R2 P3 B3 R
        by_cases hln : L < n
        · have t2 : decide ((L : Int) < (n : Int)) = true := by simp; omega
          obtain ⟨D, hD⟩ : ∃ D : Nat, D = 2 * L := ⟨_, rfl⟩
          have v1 : IntKind.i64.wrap (2 * (L : Int)) = (D : Int) := (wrapIn _ (by omega)).trans (by omega)
          have v2 : IntKind.i64.wrap ((L : Int) * 2) = (D : Int) := (wrapIn _ (by omega)).trans (by omega)
          have HD : Hid (D = 2 * L) := hD
          have D1 : L < D := by omega
          have D2 : D ≤ 10000 := by omega
          clear hD
          go_wp2
          go_loopw [7, 8] (fun av bv V => ∃ (t a b : Nat) (ys : List Int), a = t * D ∧ b = a + D ∧ a ≤ n ∧ av = .int .i64 (a : Nat) ∧ bv = .int .i64 (b : Nat) ∧ Ro g n W V ys ∧ PmQ zs ys 0 n ∧ (∀ u, u < t → BlkQ c zs ys (u * D) (u * D + D)) ∧ ∀ j, a ≤ j → nth ys j = nth xs j) (fun av _ _ => n - (intOf av).toNat)
          case atStart => exact ⟨0, 0, D, xs, by omega, by omega, by omega, rfl, rfl, RX, PX, fun u hu => by omega, fun j _ => rfl⟩
          case round =>
            obtain ⟨t, a, b, ys, ha, hb, han, rfl, rfl, RY, PY, B, E⟩ := hrel
            have YN := HNN.out.mv PY (by rw [HZ.out]; exact Nat.le_refl _)
            obtain ⟨m, hm⟩ : ∃ m : Nat, m = a + L := ⟨_, rfl⟩
            have wm : IntKind.i64.wrap ((a : Int) + (L : Int)) = (m : Int) := (wrapIn _ (by omega)).trans (by omega)
            have wb : IntKind.i64.wrap ((b : Int) + (D : Int)) = ((b + D : Nat) : Int) := (wrapIn _ (by omega)).trans (by omega)
            have X1 : BlkQ c zs ys a (min m n) := by
              have := BX (2 * t)
              rw [← mul_two, ← HD.out, ← ha, ← hm] at this
              exact this.same (fun j j1 j2 => E j j1)
            have X2 : BlkQ c zs ys m (min b n) := by
              have := BX (2 * t + 1)
              rw [mul_two1, ← HD.out, ← ha, ← hm, show m + L = b by have := HD.out; omega] at this
              exact this.same (fun j j1 j2 => E j (by omega))
            have UB : ∀ u, u < t → u * D + D ≤ a := fun u hu => by
              have := Nat.mul_le_mul_right D (show u + 1 ≤ t by omega)
              rw [Nat.succ_mul] at this
              omega
            have UA : ∀ u, t < u → b ≤ u * D := fun u hu => by
              have := Nat.mul_le_mul_right D (show t + 1 ≤ u by omega)
              rw [Nat.succ_mul] at this
              omega
            by_cases hbn : b ≤ n
            · have t3 : decide ((b : Int) ≤ (n : Int)) = true := by simp; omega
              rw [show min m n = m by omega] at X1
              rw [show min b n = b by omega] at X2
              have hcl := hsy.out a m b _ _ RY YN (by omega) (by omega) hbn X1.1 X2.1 (blk_two (by omega) X1 X2 hbn HI.out)
              have HH : Hid (a = t * D ∧ b = a + D ∧ m = a + L) := ⟨ha, hb, hm⟩
              clear ha hb hm
              go_wp2_with (go_at_call 111; (with_reducible refine hcl.mono ?_); rintro e w3 ⟨⟨v3, rfl⟩, vs, R3, P3, S3⟩)
              go_roundw
              case rel =>
                obtain ⟨ha, hb, hm⟩ := HH.out
                refine ⟨t + 1, b, b + D, vs, by rw [Nat.succ_mul]; omega, rfl, hbn, rfl, rfl, R3, PY.trans (P3.wide (by omega) hbn), fun u hu => ?_, fun j hj => by rw [P3.out j (by omega), E j (by omega)]⟩
                rcases Nat.lt_or_ge u t with hu2 | hu2
                · have := UB u hu2
                  exact (B u hu2).same (fun j j1 j2 => P3.out j (by omega))
                · obtain rfl : u = t := by omega
                  rw [← ha, ← hb]
                  exact blk_join (by omega) (by omega) X1 X2 P3 S3
              case measure => have := HH.out; simp [intOf]; omega
            · have t3 : decide ((b : Int) ≤ (n : Int)) = false := by simp; omega
              have HE : Hid (∀ us, PmQ ys us a n → BlkQ c zs us a n → PmQ zs us 0 n ∧ BksQ c zs us D n) := fun us P2 S2 => by
                refine ⟨PY.trans (P2.wide (by omega) (Nat.le_refl _)), fun u => ?_⟩
                rcases Nat.lt_or_ge u t with hu2 | hu2
                · have := UB u hu2
                  rw [show min (u * D + D) n = u * D + D by omega]
                  exact (B u hu2).same (fun j j1 j2 => P2.out j (by omega))
                · rcases Nat.lt_or_ge t u with hu3 | hu3
                  · have := UA u hu3
                    exact BlkQ.none _ _ _ (by omega)
                  · obtain rfl : u = t := by omega
                    rw [← ha, ← hb, show min b n = n by omega]
                    exact S2
              rw [show min b n = n by omega] at X2
              by_cases hmn : m < n
              · have t4 : decide ((m : Int) < (n : Int)) = true := by simp; omega
                rw [show min m n = m by omega] at X1
                have hcl := hsy.out a m n _ _ RY YN (by omega) (by omega) (Nat.le_refl _) X1.1 X2.1 (blk_two (by omega) X1 X2 (Nat.le_refl _) HI.out)
                have HH : Hid (a = t * D ∧ b = a + D ∧ m = a + L) := ⟨ha, hb, hm⟩
                clear ha hb hm
                go_wp2_with (go_at_call 111; (with_reducible refine hcl.mono ?_); rintro e w3 ⟨⟨v3, rfl⟩, vs, R3, P3, S3⟩)
                go_roundw
                case rel =>
                  have hm := HH.out
                  obtain ⟨P4, B4⟩ := HE.out vs P3 (blk_join (by omega) (by omega) X1 X2 P3 S3)
                  exact ⟨D, vs, by omega, by have := HD.out; omega, rfl, R3, P4, B4⟩
                case measure => have := HD.out; simp [intOf]; omega
              · have t4 : decide ((m : Int) < (n : Int)) = false := by simp; omega
                rw [show min m n = n by omega] at X1
                have HH : Hid (a = t * D ∧ b = a + D ∧ m = a + L) := ⟨ha, hb, hm⟩
                clear ha hb hm
                go_wp2
                go_roundw
                case rel =>
                  obtain ⟨P4, B4⟩ := HE.out ys (PmQ.refl _ _ _) X1
                  exact ⟨D, ys, by omega, by have := HD.out; omega, rfl, RY, P4, B4⟩
                case measure => have := HD.out; simp [intOf]; omega
        · have t2 : decide ((L : Int) < (n : Int)) = false := by simp; omega
          go_wp2
          go_end0
          have := BX 0
          rw [Nat.zero_mul, Nat.zero_add, show min L n = n by omega] at this
          exact ⟨⟨_, rfl⟩, xs, RX, PX, this.1⟩

set_option maxHeartbeats 1000000 in
theorem sortS_any (g n : Nat) (p q : Option Addr) (c : Int → Int → Int) (W w : World) (zs : List Int) (h : Ro g n W w zs) (N : Nat) (hc : Cmp3 N c) (hq : CmpQ g N W p q c) (hN : inN N zs) (hn4 : n ≤ 5000) (inc : ∀ i j, i < j → j < n → nth zs i < nth zs j) :
    Calls Tryz.prog 101 #[.slice (some ⟨g, 0, none⟩) n n, ordV p q] w fun e w' => (∃ v, e = .returned v) ∧ ∃ ys, Ro g n W w' ys ∧ PmQ zs ys 0 n ∧ So c ys 0 n := by
  have hs := stable_any g n p q c W w zs h N hc hq hN hn4 inc
  unfold ordV at *
  clear hc hq hN inc
  go_enter Tryz.func101, Tryz.ntmps101
  go_wp2_with (go_at_call 108; (with_reducible refine hs.mono ?_); rintro e w2 ⟨⟨v, rfl⟩, us, R2, P2, S2⟩)
  go_end0
  exact ⟨⟨_, rfl⟩, us, R2, P2, S2⟩
end Go.Proofs.YtmepcenbaohcoaaGreat
