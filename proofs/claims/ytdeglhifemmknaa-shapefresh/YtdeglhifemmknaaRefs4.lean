
/- Contracts of the document's own both and Cover. -/

import Derived.Test.YtdeglhifemmknaaRefs3

namespace Go.Proofs.Ytdeglhifemmknaa

open Go.RowKit Go.Deep

set_option linter.unusedVariables false

def comB (a b : List Int) (N k : Nat) : List Int := (List.range N).map fun i => if i < k then max (ext a N i) (ext b N i) else 0
theorem comB_len (a b : List Int) (N k : Nat) : (comB a b N k).length = N := by simp [comB]
theorem comB_zero (a b : List Int) (N : Nat) : comB a b N 0 = List.replicate N 0 := by
  refine ext_nth (by rw [comB_len, List.length_replicate]) fun k hk => ?_
  rw [comB_len] at hk
  unfold comB; rw [nth_mk _ _ _ hk, if_neg (by omega)]
  simp [nth, hk]
theorem comB_succ (a b : List Int) (N k : Nat) (hk : k < N) : comB a b N (k + 1) = (comB a b N k).set k (max (ext a N k) (ext b N k)) := by
  refine ext_nth (by rw [List.length_set, comB_len, comB_len]) fun i hi => ?_
  rw [comB_len] at hi
  rw [nth_set (by rw [comB_len]; exact hk)]
  unfold comB
  rw [nth_mk _ _ _ hi, nth_mk _ _ _ hi]
  by_cases e : i = k
  · subst e; rw [if_pos rfl, if_pos (by omega)]
  · rw [if_neg e]
    by_cases hlt : i < k
    · rw [if_pos hlt, if_pos (by omega)]
    · rw [if_neg hlt, if_neg (by omega)]
theorem comB_all (a b : List Int) {N : Nat} (h : N = Nat.max a.length b.length) : comB a b N N = com a b := by
  subst h
  refine ext_nth (by rw [comB_len, com_len]) fun k hk => ?_
  rw [comB_len] at hk
  unfold comB com
  rw [nth_mk _ _ _ hk, if_pos hk, nth_mk _ _ _ hk]

theorem max_one (a b : Int) : (if a < b then b else a) = max a b := by
  by_cases c : a < b
  · rw [if_pos c]; omega
  · rw [if_neg c]; omega

theorem both_step {wr : World} {B g N : Nat} {zs ys : List Int} {k : Nat} {x y : Int} (hfr : Fr wr B (some ⟨g, 0, none⟩) N N (comB zs ys N k)) (hk : k < N) (hx : ext zs N k = x) (hy : ext ys N k = y) (h1 : -9223372036854775808 ≤ x ∧ x ≤ 9223372036854775807) (h2 : -9223372036854775808 ≤ y ∧ y ≤ 9223372036854775807) :
    Fr (wr.setCell ⟨g, k, none⟩ (.int .i64 (if x < y then y else x))) B (some ⟨g, 0, none⟩) N N (comB zs ys N (k + 1)) := by
  subst hx; subst hy
  rw [comB_succ _ _ _ _ hk, max_one]
  exact hfr.set k hk _ (by omega) (by omega)

set_option maxHeartbeats 8000000 in
theorem both_any (ao bo : Option Addr) (n m cap cap' : Nat) (zs ys : List Int) (w : World) (h : Rd w ao n zs) (g : Rd w bo m ys) :
    Calls Try.prog 35 #[.slice ao n cap, .slice bo m cap'] w fun e w' => ∃ co k c, e = .returned (.slice co k c) ∧ Fr w' w.heap.size co k c (com zs ys) ∧ Below w.heap.size w w' := by
  have hroom := h.room
  have groom := g.room
  have HL : Hid (zs.length = n) := h.len
  have GL : Hid (ys.length = m) := g.len
  obtain ⟨N, hN, hNn, hNm, hNr⟩ : ∃ N, N = Nat.max n m ∧ n ≤ N ∧ m ≤ N ∧ N * 8 ≤ 140737488351232 := ⟨_, rfl, Nat.le_max_left _ _, Nat.le_max_right _ _, by rcases Nat.le_total n m with c | c <;> simp [Nat.max_eq_left, Nat.max_eq_right, c] <;> omega⟩
  have HN : Hid (N = Nat.max n m) := hN
  have hcase : (n < m ∧ m = N) ∨ (¬ n < m ∧ n = N) := by
    by_cases c : n < m
    · exact .inl ⟨c, by rw [hN]; exact (Nat.max_eq_right (by omega)).symm⟩
    · exact .inr ⟨c, by rw [hN]; exact (Nat.max_eq_left (by omega)).symm⟩
  clear hN
  have hmk := run_make_row' (P := Try.prog) 28 3 (.int .i64 0) 8 Try.underlying28 info3 rfl .i64 .i64 N (by omega) (by omega)
  have hmf := made_fr w N hNr
  rcases hcase with ⟨hc1, e⟩ | ⟨hc1, e⟩ <;> subst e
  · go_enter Try.func35, Try.ntmps35
    go_wp2
    go_loopw [7] (fun i wr => ∃ k : Nat, k ≤ m ∧ i = .int .i64 (k : Nat) ∧ Fr wr w.heap.size (some ⟨w.heap.size, 0, none⟩) m m (comB zs ys m k) ∧ Below w.heap.size w wr) (fun i _ => m - (intOf i).toNat)
    case atStart => exact ⟨0, Nat.zero_le _, rfl, by rw [comB_zero]; exact hmf, (Below.refl _ _).alloc (Nat.le_refl _) _⟩
    case round =>
      obtain ⟨k, hk, rfl, hfr, hbr⟩ := hrel
      clear hmk hmf
      by_cases hlt : k < m
      · obtain ⟨g1, e, _, _, hc1', hz1⟩ := hfr.head (by omega)
        cases e
        have c1 := hc1' k hlt
        have z1 := hz1 k
        have ha := h.below hbr (Nat.le_refl _)
        have hb := g.below hbr (Nat.le_refl _)
        have hl := HL.out
        have gl := GL.out
        have HL2 : Hid (zs.length = n) := hl
        have GL2 : Hid (ys.length = m) := gl
        clear hc1' hz1 hl gl
        have fa : (m - n ≤ k ∧ ∃ i1 b1 o1, k + n = m + i1 ∧ ao = some ⟨b1, o1, none⟩ ∧ wr.cell? ⟨b1, o1 + i1, none⟩ = some (.int .i64 (nth zs i1)) ∧ ext zs m k = nth zs i1 ∧ (-9223372036854775808 ≤ nth zs i1 ∧ nth zs i1 ≤ 9223372036854775807)) ∨ (k < m - n ∧ ext zs m k = 1) := by
          by_cases c : m - n ≤ k
          · obtain ⟨b1, o1, e1, _, hcc⟩ := ha.cells (by omega)
            refine .inl ⟨c, k + n - m, b1, o1, by omega, e1, hcc _ (by omega), ?_, ha.num _ (by omega)⟩
            unfold ext; rw [HL2.out, if_pos c]; congr 1; omega
          · exact .inr ⟨by omega, ext_low HL2.out (by omega)⟩
        have fb : (m - m ≤ k ∧ ∃ i2 b2 o2, k + m = m + i2 ∧ bo = some ⟨b2, o2, none⟩ ∧ wr.cell? ⟨b2, o2 + i2, none⟩ = some (.int .i64 (nth ys i2)) ∧ ext ys m k = nth ys i2 ∧ (-9223372036854775808 ≤ nth ys i2 ∧ nth ys i2 ≤ 9223372036854775807)) ∨ (k < m - m ∧ ext ys m k = 1) := by
          by_cases c : m - m ≤ k
          · obtain ⟨b1, o1, e1, _, hcc⟩ := hb.cells (by omega)
            refine .inl ⟨c, k + m - m, b1, o1, by omega, e1, hcc _ (by omega), ?_, hb.num _ (by omega)⟩
            unfold ext; rw [GL2.out, if_pos c]; congr 1; omega
          · exact .inr ⟨by omega, ext_low GL2.out (by omega)⟩
        clear ha hb
        rcases fa with ⟨a1, i1, b1, o1, a2, rfl, a3, a4, a5⟩ | ⟨a1, a4⟩ <;> rcases fb with ⟨b1', i2, b2, o2, b2', rfl, b3, b4, b5⟩ | ⟨b1', b4⟩
        · have HS := both_step hfr hlt a4 b4 a5 b5
          have x1 : (k : Int) - (m : Int) + (n : Int) = (i1 : Int) := by omega
          have x2 : (k : Int) - (m : Int) + (m : Int) = (i2 : Int) := by omega
          have y1 : (i1 : Int) < (n : Int) := by omega
          have y2 : (i2 : Int) < (m : Int) := by omega
          clear a4 b4 a2 b2'
          go_wp2
          go_roundw
          case rel => exact ⟨k + 1, by omega, by go_num, HS, hbr.setCell (p := ⟨w.heap.size, k, none⟩) (Nat.le_refl _) _⟩
          case measure => simp [intOf]; omega
        · exfalso; omega
        · have HS := both_step hfr hlt a4 b4 (by omega) b5
          have x2 : (k : Int) - (m : Int) + (m : Int) = (i2 : Int) := by omega
          have y2 : (i2 : Int) < (m : Int) := by omega
          clear a4 b4 b2'
          go_wp2
          go_roundw
          case rel => exact ⟨k + 1, by omega, by go_num, HS, hbr.setCell (p := ⟨w.heap.size, k, none⟩) (Nat.le_refl _) _⟩
          case measure => simp [intOf]; omega
        · omega
      · obtain rfl : m = k := by omega
        go_wp2
        go_ret
        refine ⟨_, _, _, rfl, ?_, hbr⟩
        rw [← comB_all zs ys (N := m) (by rw [HL.out, GL.out]; exact HN.out)]; exact hfr
  · go_enter Try.func35, Try.ntmps35
    go_wp2
    go_loopw [7] (fun i wr => ∃ k : Nat, k ≤ n ∧ i = .int .i64 (k : Nat) ∧ Fr wr w.heap.size (some ⟨w.heap.size, 0, none⟩) n n (comB zs ys n k) ∧ Below w.heap.size w wr) (fun i _ => n - (intOf i).toNat)
    case atStart => exact ⟨0, Nat.zero_le _, rfl, by rw [comB_zero]; exact hmf, (Below.refl _ _).alloc (Nat.le_refl _) _⟩
    case round =>
      obtain ⟨k, hk, rfl, hfr, hbr⟩ := hrel
      clear hmk hmf
      by_cases hlt : k < n
      · obtain ⟨g1, e, _, _, hc1', hz1⟩ := hfr.head (by omega)
        cases e
        have c1 := hc1' k hlt
        have z1 := hz1 k
        have ha := h.below hbr (Nat.le_refl _)
        have hb := g.below hbr (Nat.le_refl _)
        have hl := HL.out
        have gl := GL.out
        have HL2 : Hid (zs.length = n) := hl
        have GL2 : Hid (ys.length = m) := gl
        clear hc1' hz1 hl gl
        have fa : (n - n ≤ k ∧ ∃ i1 b1 o1, k + n = n + i1 ∧ ao = some ⟨b1, o1, none⟩ ∧ wr.cell? ⟨b1, o1 + i1, none⟩ = some (.int .i64 (nth zs i1)) ∧ ext zs n k = nth zs i1 ∧ (-9223372036854775808 ≤ nth zs i1 ∧ nth zs i1 ≤ 9223372036854775807)) ∨ (k < n - n ∧ ext zs n k = 1) := by
          by_cases c : n - n ≤ k
          · obtain ⟨b1, o1, e1, _, hcc⟩ := ha.cells (by omega)
            refine .inl ⟨c, k + n - n, b1, o1, by omega, e1, hcc _ (by omega), ?_, ha.num _ (by omega)⟩
            unfold ext; rw [HL2.out, if_pos c]; congr 1; omega
          · exact .inr ⟨by omega, ext_low HL2.out (by omega)⟩
        have fb : (n - m ≤ k ∧ ∃ i2 b2 o2, k + m = n + i2 ∧ bo = some ⟨b2, o2, none⟩ ∧ wr.cell? ⟨b2, o2 + i2, none⟩ = some (.int .i64 (nth ys i2)) ∧ ext ys n k = nth ys i2 ∧ (-9223372036854775808 ≤ nth ys i2 ∧ nth ys i2 ≤ 9223372036854775807)) ∨ (k < n - m ∧ ext ys n k = 1) := by
          by_cases c : n - m ≤ k
          · obtain ⟨b1, o1, e1, _, hcc⟩ := hb.cells (by omega)
            refine .inl ⟨c, k + m - n, b1, o1, by omega, e1, hcc _ (by omega), ?_, hb.num _ (by omega)⟩
            unfold ext; rw [GL2.out, if_pos c]; congr 1; omega
          · exact .inr ⟨by omega, ext_low GL2.out (by omega)⟩
        clear ha hb
        rcases fa with ⟨a1, i1, b1, o1, a2, rfl, a3, a4, a5⟩ | ⟨a1, a4⟩ <;> rcases fb with ⟨b1', i2, b2, o2, b2', rfl, b3, b4, b5⟩ | ⟨b1', b4⟩
        · have HS := both_step hfr hlt a4 b4 a5 b5
          have x1 : (k : Int) - (n : Int) + (n : Int) = (i1 : Int) := by omega
          have x2 : (k : Int) - (n : Int) + (m : Int) = (i2 : Int) := by omega
          have y1 : (i1 : Int) < (n : Int) := by omega
          have y2 : (i2 : Int) < (m : Int) := by omega
          clear a4 b4 a2 b2'
          go_wp2
          go_roundw
          case rel => exact ⟨k + 1, by omega, by go_num, HS, hbr.setCell (p := ⟨w.heap.size, k, none⟩) (Nat.le_refl _) _⟩
          case measure => simp [intOf]; omega
        · have HS := both_step hfr hlt a4 b4 a5 (by omega)
          have x1 : (k : Int) - (n : Int) + (n : Int) = (i1 : Int) := by omega
          have y1 : (i1 : Int) < (n : Int) := by omega
          clear a4 b4 a2
          go_wp2
          go_roundw
          case rel => exact ⟨k + 1, by omega, by go_num, HS, hbr.setCell (p := ⟨w.heap.size, k, none⟩) (Nat.le_refl _) _⟩
          case measure => simp [intOf]; omega
        · exfalso; omega
        · omega
      · obtain rfl : n = k := by omega
        go_wp2
        go_ret
        refine ⟨_, _, _, rfl, ?_, hbr⟩
        rw [← comB_all zs ys (N := n) (by rw [HL.out, GL.out]; exact HN.out)]; exact hfr

theorem com_self' (a : List Int) : com a a = a := by
  have hN : Nat.max a.length a.length = a.length := Nat.max_self _
  refine ext_nth (by rw [com_len, hN]) fun k hk => ?_
  rw [com_len, hN] at hk
  unfold com
  rw [nth_mk _ _ _ (by rw [hN]; exact hk), hN, ext_self rfl]; omega

set_option maxHeartbeats 8000000 in
theorem refCover_any (ao : Option Addr) (n cap : Nat) (zss : List (List Int)) (w : World) (h : Rs w ao n zss) :
    Calls Try.prog 23 #[.slice ao n cap] w fun e w' => ∃ co k c, e = .returned (.tuple #[.slice co k c, .int .i64 (covE zss)]) ∧ Fr w' w.heap.size co k c (covL zss) ∧ Below w.heap.size w w' := by
  have hroom := h.room
  have HL : Hid (zss.length = n) := h.len
  by_cases h0 : n = 0
  · subst h0
    go_enter Try.func23, Try.ntmps23
    go_wp2
    go_ret2
    have e1 : covE zss = 1 := by unfold covE; rw [if_pos HL.out]
    refine ⟨_, _, _, ret_lone rfl rfl rfl e1.symm, ?_, Below.refl _ _⟩
    unfold covL; rw [e1, if_neg (by omega)]; exact Fr.nil _ _
  · obtain ⟨b, off, rfl, hb, hc⟩ := h.cells (by omega)
    obtain ⟨A0, L0, C0, c0, r0, s0⟩ := hc 0 (by omega)
    have h0' : ((n : Int) == 0) = false := by simp; omega
    rw [Nat.add_zero] at c0
    go_enter Try.func23, Try.ntmps23
    go_wp2
    go_loopw [4, 5] (fun v i wr => ∃ k : Nat, k ≤ n ∧ i = .int .i64 (k : Nat) ∧ cE zss k = 0 ∧ (∃ co m c, v = .slice co m c ∧ (k = 0 → co = none ∧ m = 0 ∧ c = 0) ∧ (0 < k → Fr wr w.heap.size co m c (cst zss k))) ∧ Below w.heap.size w wr) (fun _ i _ => n - (intOf i).toNat)
    case atStart => exact ⟨0, Nat.zero_le _, rfl, rfl, ⟨none, 0, 0, rfl, fun _ => ⟨rfl, rfl, rfl⟩, fun h => by omega⟩, Below.refl _ _⟩
    case round =>
      obtain ⟨k, hk, rfl, hE, ⟨co, m, c, rfl, hnil, hfr⟩, hbr⟩ := hrel
      have HE : Hid (cE zss k = 0) := hE
      clear hE
      by_cases hlt : k < n
      · obtain ⟨A, L, C, c1, r1, s1⟩ := hc k hlt
        rw [← hbr.cell (p := ⟨b, off + k, none⟩) hb] at c1
        have c0r := (hbr.cell (p := ⟨b, off, none⟩) hb).trans c0
        have r1' := r1.below hbr (Nat.le_refl _)
        have r0' := r0.below hbr (Nat.le_refl _)
        clear c0 hc r1
        have hmay := fun W (hW : Rd W A L (row zss k)) => refMay_any A L C (row zss k) W hW
        have hm2 : ∀ W co k' c' l, Rd W co k' l → Calls Try.prog 31 #[.slice co k' c'] W fun e w' => e = .returned (.int .i64 (mayF l)) ∧ w' = W := fun W co k' c' l hW => refMay_any co k' c' _ W hW
        by_cases hr : mayF (row zss k) = 0
        · have HR : Hid (mayF (row zss k) = 0) := hr
          rw [hr] at hmay
          clear hr
          by_cases hk0 : k = 0
          · subst hk0
            obtain ⟨rfl, rfl, rfl⟩ := hnil rfl
            have hc0 : cst zss 1 = row zss 0 := com_self' _
            rw [Nat.add_zero, c0r] at c1
            obtain ⟨rfl, rfl, rfl⟩ : A0 = A ∧ L0 = L ∧ C0 = C := by cases c1; exact ⟨rfl, rfl, rfl⟩
            have HC0 : Hid (cst zss 1 = row zss 0) := hc0
            have hR := HR.out
            clear hc0 hfr c1
            go_wp2_with (first | (go_at_call 31; refine (hmay _ r1').mono ?_; clear hmay; rintro e w' ⟨rfl, hw⟩; rw [hw]; clear hw w') | (at_builtin; refine wpList_copy rfl _ _ rfl _ _ _ _ rfl rfl r0' ?_; intro ao3 cap3 w3 hf3 hb3; have hrd3 := hf3.rd) | (go_at_call 31; refine (hm2 _ _ _ _ _ hrd3).mono ?_; rintro e w' ⟨rfl, hw⟩; rw [hw]; clear hw w'; rw [hR]))
            go_roundw
            case rel => exact ⟨0 + 1, by omega, by go_num, by rw [cE_com HE.out HR.out]; show mayF (cst zss 1) = 0; rw [HC0.out]; exact HR.out, ⟨_, _, _, rfl, fun h => by omega, fun _ => by show Fr _ _ _ _ _ (cst zss 1); rw [HC0.out]; exact hf3.mono hbr.size⟩, hbr.trans (hb3.mono hbr.size)⟩
            case measure => simp [intOf]; omega
          · have hk0' : ((k : Int) == 0) = false := by simp; omega
            have hfk := hfr (by omega)
            have hrdk := hfk.rd
            have hcom := fun W (h1 : Rd W co m (cst zss k)) (h2 : Rd W A L (row zss k)) => both_any co A m L c C _ _ W h1 h2
            clear hnil hfr
            by_cases hcm : mayF (cst zss (k + 1)) = 0
            · have hcm' : mayF (com (cst zss k) (row zss k)) = 0 := hcm
              have HC : Hid (mayF (cst zss (k + 1)) = 0) := hcm
              clear hcm
              go_wp2_with (first | (go_at_call 31; refine (hmay _ r1').mono ?_; clear hmay; rintro e w' ⟨rfl, hw⟩; rw [hw]; clear hw w') | (go_at_call 35; refine (hcom _ hrdk r1').mono ?_; rintro e w2 ⟨co2, k2, c2, rfl, hf2, hb2⟩; have hrd2 := hf2.rd) | (go_at_call 31; refine (hm2 _ _ _ _ _ hrd2).mono ?_; rintro e w' ⟨rfl, hw⟩; rw [hw]; clear hw w'; rw [hcm']))
              go_roundw
              case rel => exact ⟨k + 1, by omega, by go_num, by rw [cE_com HE.out HR.out, HC.out], ⟨_, _, _, rfl, fun h => by omega, fun _ => hf2.mono hbr.size⟩, hbr.trans (hb2.mono hbr.size)⟩
              case measure => simp [intOf]; omega
            · have hcm' : (mayF (com (cst zss k) (row zss k)) != 0) = true := by
                have : mayF (com (cst zss k) (row zss k)) ≠ 0 := hcm
                simpa using this
              have HC : Hid (mayF (cst zss (k + 1)) ≠ 0) := hcm
              clear hcm
              go_wp2_with (first | (go_at_call 31; refine (hmay _ r1').mono ?_; clear hmay; rintro e w' ⟨rfl, hw⟩; rw [hw]; clear hw w') | (go_at_call 35; refine (hcom _ hrdk r1').mono ?_; rintro e w2 ⟨co2, k2, c2, rfl, hf2, hb2⟩; have hrd2 := hf2.rd) | (go_at_call 31; refine (hm2 _ _ _ _ _ hrd2).mono ?_; rintro e w' ⟨rfl, hw⟩; rw [hw]; clear hw w'))
              go_ret2
              have := cov_bad HL.out hlt (cE_com HE.out HR.out) HC.out
              refine ⟨_, _, _, ret_lone rfl rfl rfl this.1.symm, ?_, hbr.trans (hb2.mono hbr.size)⟩
              rw [this.2]; exact Fr.nil _ _
        · have hr' : (mayF (row zss k) != 0) = true := by simpa using hr
          have HR : Hid (mayF (row zss k) ≠ 0) := hr
          clear hr hnil hfr
          go_wp2_with (go_at_call 31; refine (hmay _ r1').mono ?_; clear hmay; rintro e w' ⟨rfl, hw⟩; rw [hw]; clear hw w')
          go_ret2
          have := cov_bad HL.out hlt (cE_row HE.out HR.out) HR.out
          refine ⟨_, _, _, ret_lone rfl rfl rfl this.1.symm, ?_, hbr⟩
          rw [this.2]; exact Fr.nil _ _
      · obtain rfl : n = k := by omega
        go_wp2
        go_ret2
        have := cov_good HL.out (by omega) HE.out
        refine ⟨_, _, _, ret_lone rfl rfl rfl this.1.symm, ?_, hbr⟩
        rw [this.2]; exact hfr (by omega)
end Go.Proofs.Ytdeglhifemmknaa
