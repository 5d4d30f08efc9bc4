/- The walk of the law ShapeCovers, of two hundred lists at most. -/
import Derived.Test.YtedidfjonkepoaaCovMath
import Derived.Test.YtedidfjonkepoaaJoin
import Derived.Maps.AppendAt
import Derived.Deep.Slices
namespace Go.Proofs.Ytedidfjonkepoaa
open Go.RowKit
set_option linter.unusedVariables false

theorem info25 : (Try.prog.info? 25).map (fun i => (i.zero, i.size, i.bytes)) = some (some (.slice none 0 0), 1, 24) := by kernel_rfl

theorem eqT (W : World) (co : Option Addr) (k c1 : Nat) (eo : Option Addr) (j c2 : Nat) (l : List Int) (a1 : Rd W co k l) (a2 : Rd W eo j l) :
    Calls Try.prog 16 #[.slice co k c1, .slice eo j c2] W fun e w' => e = .returned (.bool true) ∧ Below W.heap.size W w' :=
  (eqInts_any co eo k j c1 c2 l l W a1 a2).mono fun e w' ⟨e1, q, e2⟩ => ⟨by rw [e1, eqB_refl], by rw [e2]; exact below_drewN (Below.refl _ _) q⟩

theorem max_cast (a b : Nat) : (if a < b then (b : Int) else (a : Int)) = ((Nat.max a b : Nat) : Int) := by
  by_cases c : a < b
  · rw [if_pos c, show Nat.max a b = b from Nat.max_eq_right (by omega)]
  · rw [if_neg c, show Nat.max a b = a from Nat.max_eq_left (by omega)]
theorem max_if (a b : Int) : (if a < b then b else a) = max a b := by
  by_cases c : a < b
  · rw [if_pos c]; omega
  · rw [if_neg c]; omega

theorem own_shape {w : World} {B e n : Nat} {v : Value} {xs : List Value} (h : w.ownsRow B e 1 v n xs) (h0 : 0 < n) : ∃ g ct, v = .slice (some ⟨g, 0, none⟩) n ct := by
  rcases h.2 with ⟨_, e⟩ | ⟨g, ct, cur, e, _⟩
  · omega
  · exact ⟨g, ct, e⟩

/-- The lists turned round, laid one by one. -/
def tv (N : Nat) (A : Nat → Option Addr) (L C : Nat → Nat) (k : Nat) : List Value := (List.range k).map fun j => .slice (A (N - 1 - j)) (L (N - 1 - j)) (C (N - 1 - j))
theorem tv_len (N : Nat) (A : Nat → Option Addr) (L C : Nat → Nat) (k : Nat) : (tv N A L C k).length = k := by simp [tv]
theorem tv_succ (N : Nat) (A : Nat → Option Addr) (L C : Nat → Nat) (k : Nat) : tv N A L C (k + 1) = tv N A L C k ++ [.slice (A (N - 1 - k)) (L (N - 1 - k)) (C (N - 1 - k))] := by simp [tv, List.range_succ]

theorem turned_rs {W : World} {B N cap g : Nat} {A : Nat → Option Addr} {L C : Nat → Nat} {zss : List (List Int)} (hl : zss.length = N) (hr : N * 24 ≤ 140737488355328) (ho : W.ownsRow B 25 1 (.slice (some ⟨g, 0, none⟩) N cap) N (tv N A L C N))
    (h : ∀ k, k < N → Rd W (A k) (L k) (row zss k) ∧ Sl (A k) (L k) (C k)) : Rs W (some ⟨g, 0, none⟩) N zss.reverse := by
  refine ⟨by rw [List.length_reverse, hl], hr, fun h0 => ⟨g, 0, rfl, (ho.lt g rfl).2, fun k hk => ?_⟩⟩
  have hc := ho.cellAt k (by omega)
  have e : (tv N A L C N)[k]? = some (.slice (A (N - 1 - k)) (L (N - 1 - k)) (C (N - 1 - k))) := by simp [tv, hk]
  rw [e] at hc
  have hw : row zss.reverse k = row zss (N - 1 - k) := by
    unfold row
    rw [List.getD_eq_getElem?_getD, List.getD_eq_getElem?_getD, List.getElem?_reverse (by omega), hl]
  obtain ⟨h1, h2⟩ := h (N - 1 - k) (by omega)
  exact ⟨_, _, _, by rw [Nat.zero_add]; exact hc, by rw [hw]; exact h1, h2⟩

theorem three_rs (W : World) (co ao : Option Addr) (kc cc l c : Nat) (z r : List Int) (h1 : Rd W co kc z) (s1 : Sl co kc cc) (h2 : Rd W ao l r) (s2 : Sl ao l c) :
    Rs (W.alloc (.cells #[.slice co kc cc, .slice ao l c, .slice co kc cc] 25)) (some ⟨W.heap.size, 0, none⟩) 3 [z, r, z] := by
  refine ⟨rfl, by omega, fun _ => ⟨W.heap.size, 0, rfl, by simp, fun k hk => ?_⟩⟩
  have hb := World.alloc_heap_new W (.cells #[.slice co kc cc, .slice ao l c, .slice co kc cc] 25)
  have hc := fun j => cell_of_row _ _ j _ 25 (0, 0) hb
  match k, hk with
  | 0, _ => exact ⟨_, _, _, (hc 0).trans rfl, h1.alloc _, s1⟩
  | 1, _ => exact ⟨_, _, _, (hc 1).trans rfl, h2.alloc _, s2⟩
  | 2, _ => exact ⟨_, _, _, (hc 2).trans rfl, h1.alloc _, s1⟩

set_option maxHeartbeats 20000000 in
set_option maxRecDepth 20000 in
theorem covers_small (b off : Nat) (n cap : Nat) (zss : List (List Int)) (w : World) (h : Rs w (some ⟨b, off, none⟩) n zss) (h0 : 0 < n) (h200 : n ≤ 200) (hcap : n ≤ cap) (hcap2 : cap ≤ 9223372036854775807) (hnr : n * 24 ≤ 140737488355328) :
    Calls Try.prog 7 #[.slice (some ⟨b, off, none⟩) n cap] w fun e w' => e = .returned (.bool true) ∧ Below w.heap.size w w' := by
  have hroom := h.room
  have HL : Hid (zss.length = n) := h.len
  have hcov := fun W (hW : Rs W (some ⟨b, off, none⟩) n zss) => cover_any (some ⟨b, off, none⟩) n cap zss W hW
  have hN0 : ((n : Int) == 0) = false := by simp; try omega
  by_cases hE : covE zss = 0
  · obtain ⟨m1, m2, m3, m4, m5, m6, m7⟩ := covers HL.out hE
    rw [hE] at hcov
    have M2 : Hid ((covL zss).length = mlen zss n) := m2
    have M3 : Hid (∀ i, i < mlen zss n → nth (covL zss) i = top zss (mlen zss n) i n) := m3
    have M7 : Hid (covL [covL zss, row zss 0, covL zss] = covL zss) := m7
    have hcov2 : ∀ W to c, Rs W to n zss.reverse → Calls Try.prog 26 #[.slice to n c] W fun e w' => ∃ co k c, e = .returned (.tuple #[.slice co k c, .int .i64 0]) ∧ Rd w' co k (covL zss) ∧ Below W.heap.size W w' := fun W to c hW =>
      (cover_any to n c _ W hW).mono fun e w' ⟨co, k, c, e1, e2, e3⟩ => ⟨co, k, c, by rw [e1, m4], by have := e2.rd; rwa [m5] at this, e3⟩
    have hcov3 : ∀ W, Rs W (some ⟨W.heap.size, 0, none⟩) 3 [covL zss, row zss 0, covL zss] → True := fun _ _ => trivial
    have hcv3 : ∀ W to, Rs W to 3 [covL zss, row zss 0, covL zss] → Calls Try.prog 26 #[.slice to 3 3] W fun e w' => ∃ co k c, e = .returned (.tuple #[.slice co k c, .int .i64 0]) ∧ Rd w' co k (covL zss) ∧ Below W.heap.size W w' := fun W to hW =>
      (cover_any to 3 3 _ W hW).mono fun e w' ⟨co, k, c, e1, e2, e3⟩ => ⟨co, k, c, by rw [e1, m6], by have := e2.rd; rwa [M7.out] at this, e3⟩
    have hmay : ∀ W co k c, Rd W co k (covL zss) → Calls Try.prog 17 #[.slice co k c] W fun e w' => e = .returned (.int .i64 0) ∧ w' = W := fun W co k c hW => by
      have := may_any co k c _ W hW; rwa [m1] at this
    clear m2 m3 m4 m5 m6 m7 hE m1 hcov3
    obtain ⟨ML, hML⟩ : ∃ ML, mlen zss n = ML := ⟨_, rfl⟩
    rw [hML] at M2 M3
    have HM : Hid (mlen zss n = ML) := hML
    clear hML
    obtain ⟨i0, hi, hz0, hz1, hz2⟩ := info_parts info25
    go_enter Try.func7, Try.ntmps7
    go_wp2_with (first
      | (go_at_call 8; refine (begun_any _).mono ?_; rintro e w1 ⟨rfl, hb1⟩; have rs := h.below hb1 (Nat.le_refl _))
      | (go_at_call 26; (with_reducible refine (hcov _ rs).mono ?_); rintro e w2 ⟨co, kc, cc, rfl, hf2, hb2⟩; replace rs := rs.below hb2 (Nat.le_refl _)))
    have bw : Below w.heap.size w w2 := bt hb1 hb2 hb1.size
    obtain rfl : kc = ML := by rw [← hf2.rd.len]; exact M2.out
    obtain ⟨b', off', e', hbl, hcs⟩ := rs.cells (by omega)
    cases e'
    obtain ⟨A, hA⟩ := Go.Deep.choose_lt hcs
    obtain ⟨L, hL⟩ := Go.Deep.choose_lt (p := fun k l => ∃ C, w2.cell? ⟨b, off + k, none⟩ = some (.slice (A k) l C) ∧ Rd w2 (A k) l (row zss k) ∧ Sl (A k) l C) hA
    obtain ⟨C, hC⟩ := Go.Deep.choose_lt (p := fun k c => w2.cell? ⟨b, off + k, none⟩ = some (.slice (A k) (L k) c) ∧ Rd w2 (A k) (L k) (row zss k) ∧ Sl (A k) (L k) c) hL
    clear hA hL hcs hb1 hb2 hcov
    have rc := hf2.rd
    have sc := hf2.sl
    go_loopw [5, 6, 7] (fun v lg i wr => ∃ (k : Nat) (vv : Value), v = vv ∧ k ≤ n ∧ i = .int .i64 (k : Nat) ∧ lg = .int .i64 (mlen zss k : Nat) ∧ wr.ownsRow w2.heap.size 25 1 vv k (tv n A L C k) ∧ Below w2.heap.size w2 wr) (fun _ _ i _ => n - (intOf i).toNat)
    case atStart => exact ⟨0, _, rfl, Nat.zero_le _, rfl, rfl, World.ownsRow_nil _ _ _ _, Below.refl _ _⟩
    case round =>
      obtain ⟨k, vv, rfl, hk, rfl, rfl, hrow, hbr⟩ := hrel
      by_cases hlt : k < n
      · obtain ⟨c1, r1, s1⟩ := hC k hlt
        obtain ⟨c2, r2, s2⟩ := hC (n - 1 - k) (by omega)
        rw [← hbr.cell (p := ⟨b, off + k, none⟩) hbl] at c1
        rw [← hbr.cell (p := ⟨b, off + (n - 1 - k), none⟩) hbl] at c2
        have hsz := hbr.size
        have hlk : L k = (row zss k).length := r1.len.symm
        have HK : Hid (L k = (row zss k).length) := hlk
        have r1m := r1.room
        have cw := (hC k hlt).1
        clear hlk r1 r2 s1 s2
        go_wp2_with (at_builtin; refine wpList_append_own _ rfl _ _ 29 rfl w2.heap.size 25 i0 (.slice none 0 0) 1 24 Try.underlying29 hi hz0 hz1 hz2 rfl (by decide) _ _ _ rfl (hrow.alloc _) ⟨wr.heap.size, 0, none⟩ 1 1 [.slice (A (n - 1 - k)) (L (n - 1 - k)) (C (n - 1 - k))] rfl rfl (cell_one_new _ _ _) (by simp [Value.oneCell']) (by unfold maxLen; omega) (by omega) (by simp; omega) ?_; intro v' w3 hown hgrow _; have hb3 : Below w2.heap.size w2 w3 := (hbr.alloc hsz _).grown hgrow (by simp; omega) (fun j e => (hrow.lt j e).1); rw [← tv_succ] at hown; have cw3 := (hb3.cell (p := ⟨b, off + k, none⟩) hbl).trans cw; clear c1 c2 hgrow cw)
        go_roundw
        case rel => exact ⟨k + 1, _, rfl, by omega, by go_num, by rw [max_cast, HK.out]; rfl, hown, hb3⟩
        case measure => simp [intOf]; omega
      · obtain rfl : n = k := by omega
        obtain ⟨g, ct, rfl⟩ := own_shape hrow (by omega)
        have rt : Rs wr (some ⟨g, 0, none⟩) n zss.reverse := turned_rs HL.out hroom hrow (fun k hk => ⟨(hC k hk).2.1.below hbr (Nat.le_refl _), (hC k hk).2.2⟩)
        have rcw := rc.below hbr (Nat.le_refl _)
        have rsw := rs.below hbr (Nat.le_refl _)
        have hml := HM.out
        rw [hml]
        clear hC hi hz0 hz1 hz2 hml
        have bw3 := bt bw hbr bw.size
        clear bw rs hbr rc hrow
        go_wp2_with (first
          | (go_at_call 26; (with_reducible refine (hcov2 _ _ _ rt).mono ?_); clear hcov2; rintro e w4 ⟨do4, k4, d4, rfl, rd4, hb4⟩; replace rcw := rcw.below hb4 (Nat.le_refl _); replace rsw := rsw.below hb4 (Nat.le_refl _))
          | (go_at_call 16; (with_reducible refine (eqT _ _ _ _ _ _ _ _ rcw rd4).mono ?_); clear rd4; rintro e w5 ⟨rfl, hb5⟩; replace rcw := rcw.below hb5 (Nat.le_refl _); replace rsw := rsw.below hb5 (Nat.le_refl _))
          | (go_at_call 17; (with_reducible refine (hmay _ _ _ _ rcw).mono ?_); clear hmay; rintro e w6 ⟨rfl, hw6⟩; rw [hw6]; clear hw6 w6))
        have bw5 := bt (bt bw3 hb4 bw3.size) hb5 (bt bw3 hb4 bw3.size).size
        clear bw3 hb4 hb5 rt
        obtain ⟨b', off', e', hbl5, hcs⟩ := rsw.cells (by omega)
        have rcm := rcw.room
        cases e'
        go_loopw [10] (fun i wr => ∃ k : Nat, k ≤ kc ∧ i = .int .i64 (k : Nat) ∧ Below w5.heap.size w5 wr) (fun i _ => kc - (intOf i).toNat)
        case atStart => exact ⟨0, Nat.zero_le _, rfl, Below.refl _ _⟩
        case round =>
          obtain ⟨k, hk, rfl, hbr⟩ := hrel
          by_cases hlt : k < kc
          · go_wp2
            go_loopw [11, 12] (fun mo i wx => ∃ j : Nat, j ≤ n ∧ i = .int .i64 (j : Nat) ∧ mo = .int .i64 (top zss kc k j) ∧ Below w5.heap.size w5 wx ∧ -9223372036854775808 ≤ top zss kc k j ∧ top zss kc k j ≤ 9223372036854775807) (fun _ i _ => n - (intOf i).toNat)
            case atStart => exact ⟨0, Nat.zero_le _, rfl, rfl, hbr, by simp [top], by simp [top]⟩
            case round =>
              obtain ⟨j, hj, rfl, rfl, hbx, ht1, ht2⟩ := hrel
              by_cases hjl : j < n
              · obtain ⟨A1, l1, C1, c1, r1, s1⟩ := hcs j hjl
                rw [← hbx.cell (p := ⟨b, off + j, none⟩) hbl5] at c1
                have r1x := r1.below hbx (Nat.le_refl _)
                have hll : l1 ≤ kc := by rw [← r1.len, ← HM.out]; exact mlen_le _ hjl
                have r1m := r1.room
                have HR : Hid ((row zss j).length = l1) := r1.len
                by_cases hge : kc - l1 ≤ k
                · obtain ⟨i1, hi1⟩ : ∃ i1, k + l1 = kc + i1 := ⟨k + l1 - kc, by omega⟩
                  obtain ⟨b1, off1, rfl, hb1, hc1⟩ := r1x.cells (by omega)
                  have c3 := hc1 i1 (by omega)
                  have n3 := r1x.num i1 (by omega)
                  have HX : Hid (ext (row zss j) kc k = nth (row zss j) i1) := by
                    have := ext_high (N := kc) (j := i1) HR.out
                    rwa [show kc - l1 + i1 = k by omega] at this
                  have hx3 : (k : Int) - (kc : Int) + (l1 : Int) = (i1 : Int) := by omega
                  have hil : (i1 : Int) < (l1 : Int) := by omega
                  clear hc1 r1 r1x hcs s1 hbr hi1
                  go_wp2
                  go_quiet (fail)
                  go_wp2
                  go_roundw
                  case rel => exact ⟨j + 1, by omega, by go_num, by rw [max_if, ← HX.out]; rfl, below_drewN hbx _, by simp only [top]; rw [HX.out]; omega, by simp only [top]; rw [HX.out]; omega⟩
                  case measure => simp [intOf]; omega
                · have HX : Hid (ext (row zss j) kc k = 1) := ext_low HR.out (by omega)
                  clear r1 r1x hcs s1 hbr
                  go_wp2
                  go_roundw
                  case rel => exact ⟨j + 1, by omega, by go_num, by rw [max_if, ← HX.out]; rfl, hbx, by simp only [top]; rw [HX.out]; omega, by simp only [top]; rw [HX.out]; omega⟩
                  case measure => simp [intOf]; omega
              · obtain rfl : n = j := by omega
                obtain ⟨bc, oc, rfl, hbc, hcc⟩ := (rcw.below hbx (Nat.le_refl _)).cells (by omega)
                have cc1 := hcc k hlt
                have hne : (nth (covL zss) k != top zss kc k n) = false := by rw [M3.out k hlt]; simp
                clear hcc hcs hbr
                go_wp2
                go_roundw
                case rel => exact ⟨k + 1, by omega, by go_num, hbx⟩
                case measure => simp [intOf]; omega
          · obtain ⟨A1, l1, C1, c1, r1, s1⟩ := hcs 0 (by omega)
            rw [← hbr.cell (p := ⟨b, off + 0, none⟩) hbl5] at c1
            rw [Nat.add_zero] at c1
            have rcx := rcw.below hbr (Nat.le_refl _)
            have r3 := three_rs wr co A1 kc cc l1 C1 _ _ rcx sc (r1.below hbr (Nat.le_refl _)) s1
            have rcx3 := rcx.alloc (.cells #[.slice co kc cc, .slice A1 l1 C1, .slice co kc cc] 25)
            clear hcs r1 s1
            go_wp2_with (first
              | (go_at_call 26; (with_reducible refine (hcv3 _ _ r3).mono ?_); rintro e w7 ⟨do7, k7, d7, rfl, rd7, hb7⟩; have rc7 := rcx3.below hb7 (Nat.le_refl _))
              | (go_at_call 16; (with_reducible refine (eqT _ _ _ _ _ _ _ _ rd7 rc7).mono ?_); rintro e w8 ⟨rfl, hb8⟩))
            go_ret
            refine ⟨rfl, ?_⟩
            have q1 := bt bw5 hbr bw5.size
            have q2 := (q1.alloc q1.size (.cells #[.slice co kc cc, .slice A1 l1 C1, .slice co kc cc] 25))
            have q3 := bt q2 hb7 q2.size
            exact bt q3 hb8 q3.size
  · have f1 : (covE zss != 0) = true := by simpa using hE
    have f2 : covL zss = [] := by unfold covL; rw [if_neg hE]
    clear hE
    go_enter Try.func7, Try.ntmps7
    go_wp2_with (first
      | (go_at_call 8; refine (begun_any _).mono ?_; rintro e w1 ⟨rfl, hb1⟩; have rs := h.below hb1 (Nat.le_refl _))
      | (go_at_call 26; (with_reducible refine (hcov _ rs).mono ?_); rintro e w2 ⟨co, kc, cc, rfl, hf2, hb2⟩; have hk0 : kc = 0 := (by rw [← hf2.rd.len, f2]; rfl); subst hk0))
    go_ret
    exact ⟨rfl, bt hb1 hb2 hb1.size⟩

end Go.Proofs.Ytedidfjonkepoaa
