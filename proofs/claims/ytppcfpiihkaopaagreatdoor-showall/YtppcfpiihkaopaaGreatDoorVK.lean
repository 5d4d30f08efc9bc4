
/- Contracts of whole and Read. -/

import Derived.Test.YtppcfpiihkaopaaGreatDoorVJ

import Derived.Test.YtppcfpiihkaopaaGreatDoorVI

namespace Go.Proofs.YtppcfpiihkaopaaGreatDoor

open Go.RowKit

set_option linter.unusedVariables false

/-- What is told of all that was gathered: shape, atoms, place, error. -/
def rdV (l : List UInt8) : Rr → List Int × List Int × Int × Int
  | .inl (p, er) => ([], [], p, er)
  | .inr (D, L, N) => if D = -1 then (if N.length = 1 then ([], N, 0, 0) else if N.length ≤ 4096 then ([(N.length : Int)], N, 0, 0) else ([], [], 0, 17))
    else if L.length = 0 then ([], [], D, 37) else if mayF L ≠ 0 then ([], [], 0, 17) else if (N.length : Int) ≠ pr L then ([], [], l.length, 11) else if bareB L N then ([], [], D, 37) else (L, N, 0, 0)
/-- What Read tells of a text. -/
def rdAll (l : List UInt8) : List Int × List Int × Int × Int := if 1048576 < l.length then ([], [], 0, 2) else rdV l (scn l (l.length + 1) 0 (-1) [] [])
def AnsV (w : World) (B : Nat) (v : List Int × List Int × Int × Int) (e : Ending) (w' : World) : Prop := AnsR w B v.1 v.2.1 v.2.2.1 v.2.2.2 e w'
theorem ansV_of {w w' : World} {B : Nat} {v : List Int × List Int × Int × Int} {S A : List Int} {p E : Int} {e : Ending} (h : AnsR w B S A p E e w') (hv : v = (S, A, p, E)) : AnsV w B v e w' := by subst hv; exact h

theorem shaped_any (W : World) (B g : Nat) (s : List UInt8) (a f : Nat) (d : Int) (lo : Option Addr) (ln lc : Nat) (L : List Int) (no : Option Addr) (nn nc : Nat) (N : List Int) (h : Rdr W B g s a f d lo ln lc L no nn nc N) (hBW : B ≤ W.heap.size) (hd : d ≠ -1) :
    Calls Tryz.prog 47 #[.pointer (some ⟨g, 0, none⟩)] W fun e W' => AnsV W B (rdV s (Rr.ok d L N)) e W' := by
  have hN : N.length = nn := h.fn.rd.len
  have hL : L.length = ln := h.fl.rd.len
  by_cases h0 : ln = 0
  · subst h0
    exact (shaped_none W B g s a f d lo lc L no nn nc N h).mono fun e W' k => ansV_of k (by simp only [rdV]; rw [if_neg hd, if_pos hL])
  · have hl : 0 < ln := by omega
    by_cases hm : mayF L = 0
    · by_cases hn : (nn : Int) = pr L
      · refine (shaped_in W B g s a f d lo ln lc L no nn nc N h hl hm hn).mono fun e W' k => ?_
        unfold ShAns at k
        by_cases hb : bareB L N
        · rw [if_pos hb] at k
          exact ansV_of k (by simp only [rdV]; rw [if_neg hd, if_neg (by omega), if_neg (by simp [hm]), if_neg (by rw [hN]; simp [hn]), if_pos hb])
        · rw [if_neg hb] at k
          exact ansV_of k (by simp only [rdV]; rw [if_neg hd, if_neg (by omega), if_neg (by simp [hm]), if_neg (by rw [hN]; simp [hn]), if_neg hb])
      · exact (shaped_len W B g s a f d lo ln lc L no nn nc N h hl hm hn).mono fun e W' k => ansV_of k (by simp only [rdV]; rw [if_neg hd, if_neg (by omega), if_neg (by simp [hm]), if_pos (by rw [hN]; exact hn)])
    · exact (shaped_size W B g s a f d lo ln lc L no nn nc N h hl hm).mono fun e W' k => ansV_of k (by simp only [rdV]; rw [if_neg hd, if_neg (by omega), if_pos hm])

set_option maxHeartbeats 2000000 in
theorem whole_shaped (W : World) (B g : Nat) (s : List UInt8) (a f : Nat) (d : Int) (lo : Option Addr) (ln lc : Nat) (L : List Int) (no : Option Addr) (nn nc : Nat) (N : List Int) (h : Rdr W B g s a f d lo ln lc L no nn nc N) (hBW : B ≤ W.heap.size) (hd : d ≠ -1) :
    Calls Tryz.prog 24 #[.pointer (some ⟨g, 0, none⟩)] W fun e W' => AnsV W B (rdV s (Rr.ok d L N)) e W' := by
  have k0 := box_below W (.cells #[.slice none 0 0, .slice none 0 0] 36)
  have R0 := h.below k0
  have z0 := allocNew W (.cells #[.slice none 0 0, .slice none 0 0] 36)
  obtain ⟨c0, c1, c2, c3, c4, c5, cz⟩ := box6 R0.row
  obtain ⟨y0, y1, y2, y3⟩ := box2 z0
  have HN : Hid (N.length = nn) := h.fn.rd.len
  have HL : Hid (L.length = ln) := h.fl.rd.len
  have cS := shaped_any _ B g s a f d lo ln lc L no nn nc N R0 (Nat.le_trans hBW k0.size) hd
  have t0 : (d != -1) = true := by simpa using hd
  unfold AnsV at cS ⊢
  generalize rdV s (Rr.ok d L N) = v at *
  obtain ⟨S, A, p, E⟩ := v
  clear hd
  go_enter Tryz.func24, Tryz.ntmps24
  go_wp2_with (go_at_call 47; (with_reducible refine cS.mono ?_); rintro e w1 ⟨o1, n1, c1', o2, n2, c2', rfl, f1, f2, k1⟩; have z1 := (k1.block W.heap.size (by simp)).trans z0; have K1 := k0.trans (k1.mono k0.size); obtain ⟨x0, x1, x2, x3⟩ := box2 z1)
  refine bodyPost_ret (v := .tuple #[.agg #[.slice o1 n1 c1', .slice o2 n2 c2'], .int .i64 p, .int .i64 E]) (by simp [results, Tryz.results24]; go_simp) rfl ?_
  exact ⟨o1, n1, c1', o2, n2, c2', rfl, ft_box2 f1 z1 (by decide) _ _, ft_box2 f2 z1 (by decide) _ _, below_set2 _ _ _ _ K1 (Nat.le_refl _) (Nat.le_refl _)⟩
set_option maxHeartbeats 2000000 in
theorem whole_one (W : World) (B g : Nat) (s : List UInt8) (a f : Nat)  (lo : Option Addr) (ln lc : Nat) (L : List Int) (no : Option Addr) (nc : Nat) (N : List Int) (h : Rdr W B g s a f (-1) lo ln lc L no 1 nc N) (hBW : B ≤ W.heap.size) :
    Calls Tryz.prog 24 #[.pointer (some ⟨g, 0, none⟩)] W fun e W' => AnsR W B [] N 0 0 e W' := by
  have k0 := box_below W (.cells #[.slice none 0 0, .slice none 0 0] 36)
  have R0 := h.below k0
  have z0 := allocNew W (.cells #[.slice none 0 0, .slice none 0 0] 36)
  obtain ⟨c0, c1, c2, c3, c4, c5, cz⟩ := box6 R0.row
  obtain ⟨y0, y1, y2, y3⟩ := box2 z0
  have HN : Hid (N.length = 1) := h.fn.rd.len
  have HL : Hid (L.length = ln) := h.fl.rd.len
  have t0 : ((-1 : Int) != -1) = false := rfl
  obtain ⟨b, off, rfl, hb, hc⟩ := R0.fn.rd.cells (by omega)
  have e1 := hc 0 (by omega)
  rw [Nat.add_zero] at e1
  have hz := R0.fn.rd.num 0 (by omega)
  have HX : Hid (N = [nth N 0]) := by
    have := HN.out
    match N, this with
    | [x], _ => rfl
  have cS := scalar_any (nth N 0) (W.alloc (.cells #[.slice none 0 0, .slice none 0 0] 36)) hz.1 hz.2
  generalize nth N 0 = nv at *
  clear hc
  go_enter Tryz.func24, Tryz.ntmps24
  go_wp2_with (go_at_call 48; (with_reducible refine cS.mono ?_); rintro e w1 ⟨ao, ac, rfl, f2, k1⟩; have z1 := (k1.block W.heap.size (by simp)).trans z0; have K1 := k0.trans (k1.mono k0.size); obtain ⟨x0, x1, x2, x3⟩ := box2 z1)
  refine bodyPost_ret (v := .tuple #[.agg #[.slice none 0 0, .slice ao 1 ac], .int .i64 0, .int .i64 0]) (by simp [results, Tryz.results24]; go_simp) rfl ?_
  refine ⟨none, 0, 0, ao, 1, ac, rfl, Ft.nil _ _ _, ?_, below_set2 _ _ _ _ K1 (Nat.le_refl _) (Nat.le_refl _)⟩
  rw [HX.out]
  exact (ft_box2 f2 z1 (by decide) _ _).mono (Nat.le_trans hBW k0.size)
set_option maxHeartbeats 2000000 in
theorem whole_list (W : World) (B g : Nat) (s : List UInt8) (a f : Nat)  (lo : Option Addr) (ln lc : Nat) (L : List Int) (no : Option Addr) (nn nc : Nat) (N : List Int) (h : Rdr W B g s a f (-1) lo ln lc L no nn nc N) (hBW : B ≤ W.heap.size) (h1 : nn ≠ 1) (h4 : nn ≤ 4096) :
    Calls Tryz.prog 24 #[.pointer (some ⟨g, 0, none⟩)] W fun e W' => AnsR W B [(nn : Int)] N 0 0 e W' := by
  have k0 := box_below W (.cells #[.slice none 0 0, .slice none 0 0] 36)
  have R0 := h.below k0
  have z0 := allocNew W (.cells #[.slice none 0 0, .slice none 0 0] 36)
  obtain ⟨c0, c1, c2, c3, c4, c5, cz⟩ := box6 R0.row
  obtain ⟨y0, y1, y2, y3⟩ := box2 z0
  have HN : Hid (N.length = nn) := h.fn.rd.len
  have HL : Hid (L.length = ln) := h.fl.rd.len
  have t0 : ((-1 : Int) != -1) = false := rfl
  have t1 : ((nn : Int) == 1) = false := by simp; omega
  have t1' : (nn == 1) = false := by simp [h1]
  have cS := list_any no nn nc N (W.alloc (.cells #[.slice none 0 0, .slice none 0 0] 36)) R0.fn.rd R0.fn.sl h4
  clear h1
  go_enter Tryz.func24, Tryz.ntmps24
  go_wp2_with (go_at_call 49; (with_reducible refine cS.mono ?_); rintro e w1 ⟨so, sc, bo, bc, rfl, f1, f2, _, k1⟩; have z1 := (k1.block W.heap.size (by simp)).trans z0; have K1 := k0.trans (k1.mono k0.size); have k2 := box_below w1 (.cells #[.slice so 1 sc, .slice bo nn bc] 36); have z2 := (k2.block W.heap.size (Array.getElem?_eq_some_iff.1 z1).1).trans z1; obtain ⟨x0, x1, x2, x3⟩ := box2 z2; obtain ⟨v0, v1, _, _⟩ := box2 (allocNew w1 (.cells #[.slice so 1 sc, .slice bo nn bc] 36)))
  refine bodyPost_ret (v := .tuple #[.agg #[.slice so 1 sc, .slice bo nn bc], .int .i64 0, .int .i64 0]) (by simp [results, Tryz.results24]; go_simp) rfl ?_
  refine ⟨so, 1, sc, bo, nn, bc, rfl, ?_, ?_, below_set2 _ _ _ _ (K1.trans (k2.mono K1.size)) (Nat.le_refl _) (Nat.le_refl _)⟩
  · exact (ft_box2 (f1.below k2 (Nat.le_refl _)) z2 (by decide) _ _).mono (Nat.le_trans hBW k0.size)
  · exact (ft_box2 (f2.below k2 (Nat.le_refl _)) z2 (by decide) _ _).mono (Nat.le_trans hBW k0.size)
set_option maxHeartbeats 2000000 in
theorem whole_long (W : World) (B g : Nat) (s : List UInt8) (a f : Nat)  (lo : Option Addr) (ln lc : Nat) (L : List Int) (no : Option Addr) (nn nc : Nat) (N : List Int) (h : Rdr W B g s a f (-1) lo ln lc L no nn nc N) (hBW : B ≤ W.heap.size) (h4 : 4096 < nn) (h5 : nn ≤ 9223372036854775807) :
    Calls Tryz.prog 24 #[.pointer (some ⟨g, 0, none⟩)] W fun e W' => AnsR W B [] [] 0 17 e W' := by
  have k0 := box_below W (.cells #[.slice none 0 0, .slice none 0 0] 36)
  have R0 := h.below k0
  have z0 := allocNew W (.cells #[.slice none 0 0, .slice none 0 0] 36)
  obtain ⟨c0, c1, c2, c3, c4, c5, cz⟩ := box6 R0.row
  obtain ⟨y0, y1, y2, y3⟩ := box2 z0
  have HN : Hid (N.length = nn) := h.fn.rd.len
  have HL : Hid (L.length = ln) := h.fl.rd.len
  have t0 : ((-1 : Int) != -1) = false := rfl
  have t1 : ((nn : Int) == 1) = false := by simp; omega
  have t1' : (nn == 1) = false := by simp; omega
  have cS := list_long no nn nc (W.alloc (.cells #[.slice none 0 0, .slice none 0 0] 36)) h4 h5
  clear h4 h5
  go_enter Tryz.func24, Tryz.ntmps24
  go_wp2_with (go_at_call 49; (with_reducible refine cS.mono ?_); rintro e w1 ⟨rfl, k1⟩; have z1 := (k1.block W.heap.size (by simp)).trans z0; have K1 := k0.trans (k1.mono k0.size); have k2 := box_below w1 (.cells #[.slice none 0 0, .slice none 0 0] 36); have z2 := (k2.block W.heap.size (Array.getElem?_eq_some_iff.1 z1).1).trans z1; obtain ⟨x0, x1, x2, x3⟩ := box2 z2; obtain ⟨v0, v1, _, _⟩ := box2 (allocNew w1 (.cells #[.slice none 0 0, .slice none 0 0] 36)))
  refine bodyPost_ret (v := .tuple #[.agg #[.slice none 0 0, .slice none 0 0], .int .i64 0, .int .i64 17]) (by simp [results, Tryz.results24]; go_simp) rfl ?_
  exact ansR_none rfl (below_set2 _ _ _ _ (K1.trans (k2.mono K1.size)) (Nat.le_refl _) (Nat.le_refl _))
theorem whole_any (W : World) (B g : Nat) (s : List UInt8) (a f : Nat) (d : Int) (lo : Option Addr) (ln lc : Nat) (L : List Int) (no : Option Addr) (nn nc : Nat) (N : List Int) (h : Rdr W B g s a f d lo ln lc L no nn nc N) (hBW : B ≤ W.heap.size) :
    Calls Tryz.prog 24 #[.pointer (some ⟨g, 0, none⟩)] W fun e W' => AnsV W B (rdV s (Rr.ok d L N)) e W' := by
  have hN : N.length = nn := h.fn.rd.len
  by_cases hd : d = -1
  · subst hd
    by_cases h1 : nn = 1
    · subst h1
      exact (whole_one W B g s a f lo ln lc L no nc N h hBW).mono fun e W' k => ansV_of k (by simp only [rdV]; rw [if_pos trivial, if_pos hN])
    · by_cases h4 : nn ≤ 4096
      · refine (whole_list W B g s a f lo ln lc L no nn nc N h hBW h1 h4).mono fun e W' k => ansV_of k ?_
        simp only [rdV]; rw [if_pos trivial, if_neg (by omega), if_pos (by omega), hN]
      · exact (whole_long W B g s a f lo ln lc L no nn nc N h hBW (by omega) (by have := h.fn.rd.room; omega)).mono fun e W' k => ansV_of k (by simp only [rdV]; rw [if_pos trivial, if_neg (by omega), if_neg (by omega)])
  · exact whole_shaped W B g s a f d lo ln lc L no nn nc N h hBW hd

set_option maxHeartbeats 2000000 in
theorem read_any (s : List UInt8) (w : World) (hs : s.length ≤ 9223372036854775807) (T : Tb w) :
    Calls Tryz.prog 10 #[.string ⟨s.toArray⟩] w fun e w' => AnsV w w.heap.size (rdAll s) e w' := by
  have k0 := box_below w (.cells #[.slice none 0 0, .slice none 0 0] 36)
  have z0 := allocNew w (.cells #[.slice none 0 0, .slice none 0 0] 36)
  by_cases hl : 1048576 < s.length
  · have HR : Hid (rdAll s = ([], [], 0, 2)) := if_pos hl
    have t0 : (1048576 : Int) < (s.length : Int) := by omega
    obtain ⟨y0, y1, y2, y3⟩ := box2 z0
    go_enter Tryz.func10, Tryz.ntmps10
    go_wp2
    refine bodyPost_ret (v := .tuple #[.agg #[.slice none 0 0, .slice none 0 0], .int .i64 0, .int .i64 2]) (by simp [results, Tryz.results10]; go_simp) rfl ?_
    exact ansV_of (ansR_none rfl k0) HR.out
  · obtain ⟨R, hR⟩ : ∃ R, scn s (s.length + 1) 0 (-1) [] [] = R := ⟨_, rfl⟩
    have HR : Hid (rdAll s = rdV s R) := by show _ = _; unfold rdAll; rw [if_neg hl, hR]
    have t0 : ¬ (1048576 : Int) < (s.length : Int) := by omega
    have t0' : decide (1048576 < s.length) = false := by simp; omega
    have k1 := box_below (w.alloc (.cells #[.slice none 0 0, .slice none 0 0] 36)) (.cells #[.string ⟨s.toArray⟩, .int .i64 0, .int .i64 0, .int .i64 (-1), .slice none 0 0, .slice none 0 0] 56)
    have z1 := allocNew (w.alloc (.cells #[.slice none 0 0, .slice none 0 0] 36)) (.cells #[.string ⟨s.toArray⟩, .int .i64 0, .int .i64 0, .int .i64 (-1), .slice none 0 0, .slice none 0 0] 56)
    have R1 : Rdr ((w.alloc (.cells #[.slice none 0 0, .slice none 0 0] 36)).alloc (.cells #[.string ⟨s.toArray⟩, .int .i64 0, .int .i64 0, .int .i64 (-1), .slice none 0 0, .slice none 0 0] 56)) (w.alloc (.cells #[.slice none 0 0, .slice none 0 0] 36)).heap.size (w.alloc (.cells #[.slice none 0 0, .slice none 0 0] 36)).heap.size s 0 0 (-1) none 0 0 [] none 0 0 [] := ⟨z1, Ft.nil _ _ _, Ft.nil _ _ _⟩
    have cW := words_any (w.alloc (.cells #[.slice none 0 0, .slice none 0 0] 36)) _ s R (s.length + 1) _ (T.below k0) (Nat.le_refl _) (by omega) k1 0 none 0 0 none 0 0 R1 (by omega) hR
    have e1 : (w.alloc (.cells #[.slice none 0 0, .slice none 0 0] 36)).heap.size = w.heap.size + 1 := World.size_alloc _ _
    unfold wPost at cW
    rw [e1] at cW
    rcases R with ⟨p, er⟩ | ⟨D, L, N⟩
    ·
      have HV : Hid (rdAll s = ([], [], (p : Int), er)) := HR.out
      have her : er ≠ 0 := by have := scn_start s (s.length + 1); rw [hR] at this; exact this.2.1
      have t1 : (er != 0) = true := by simpa using her
      have HE : Hid ((w.alloc (.cells #[.slice none 0 0, .slice none 0 0] 36)).heap.size = w.heap.size + 1) := e1
      clear hR HR her e1
      go_enter Tryz.func10, Tryz.ntmps10
      go_wp2_with (go_at_call 23; (with_reducible refine cW.mono ?_); rintro e w2 ⟨k2, rfl⟩; rw [← HE.out] at k2; have K2 := k0.trans (k2.mono k0.size); have z2 := (k2.block w.heap.size (by simp)).trans z0; obtain ⟨y0, y1, y2, y3⟩ := box2 z2)
      refine bodyPost_ret (v := .tuple #[.agg #[.slice none 0 0, .slice none 0 0], .int .i64 (p : Int), .int .i64 er]) (by simp [results, Tryz.results10]; go_simp) rfl ?_
      exact ansV_of (ansR_none rfl (below_set2 _ _ _ _ K2 (Nat.le_refl _) (Nat.le_refl _))) HV.out
    ·
      have HE : Hid ((w.alloc (.cells #[.slice none 0 0, .slice none 0 0] 36)).heap.size = w.heap.size + 1) := e1
      have cH := fun W a f lo ln lc no nn nc h hB => whole_any W (w.heap.size + 1) (w.heap.size + 1) s a f D lo ln lc L no nn nc N h hB
      unfold AnsV at cH ⊢
      rw [HR.out]
      generalize rdV s (Rr.ok D L N) = v at *
      obtain ⟨S, A, p, E⟩ := v
      clear hR e1 HR
      go_enter Tryz.func10, Tryz.ntmps10
      go_wp2_with (first
        | (go_at_call 23; (with_reducible refine cW.mono ?_); rintro e w2 ⟨k2, rfl, a2, f2, lo, ln, lc, no, nn, nc, R2⟩; have hB2 : w.heap.size + 1 ≤ w2.heap.size := (by have hq := k2.size; rw [HE.out] at hq; exact hq); rw [← HE.out] at k2; have K2 := k0.trans (k2.mono k0.size); have z2 := (k2.block w.heap.size (by simp)).trans z0)
        | (go_at_call 24; (with_reducible refine (cH w2 a2 f2 lo ln lc no nn nc R2 hB2).mono ?_); rintro e w3 ⟨o1, n1, c1', o2, n2, c2', rfl, g1, g2, k3⟩; have K3 := K2.trans (k3.mono K2.size); have z3 := (k3.block w.heap.size (Array.getElem?_eq_some_iff.1 z2).1).trans z2; obtain ⟨y0, y1, y2, y3⟩ := box2 z3))
      refine bodyPost_ret (v := .tuple #[.agg #[.slice o1 n1 c1', .slice o2 n2 c2'], .int .i64 p, .int .i64 E]) (by simp [results, Tryz.results10]; go_simp) rfl ?_
      exact ⟨o1, n1, c1', o2, n2, c2', rfl, (ft_box2 g1 z3 (by decide) _ _).mono (by omega), (ft_box2 g2 z3 (by decide) _ _).mono (by omega), below_set2 _ _ _ _ K3 (Nat.le_refl _) (Nat.le_refl _)⟩
end Go.Proofs.YtppcfpiihkaopaaGreatDoor
