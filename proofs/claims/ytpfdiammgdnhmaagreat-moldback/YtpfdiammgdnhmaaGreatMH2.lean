
/- Contracts of package mold: an axis of which places are left away; axes changed so. -/

import Derived.Test.YtpfdiammgdnhmaaGreatMJ

namespace Go.Proofs.YtpfdiammgdnhmaaGreat

open Go.RowKit

set_option linter.unusedVariables false


set_option maxHeartbeats 2000000 in
theorem drop_a (a : Ax) (n : Int) (K : Nat) (cs : Array Value) (bs : List Nat) (w : World) (hw : a.wid ≤ 4096) (hs : a.stp ≤ 4096) (hl : a.len ≤ 1000000) (h1 : -9223372036854775808 ≤ n) (h2 : n ≤ 9223372036854775807) (hway : Way w bs a.wid a.stp a.f (.func (.func K) #[] cs)) (hbs : ∀ b, b ∈ bs → ∃ v, w.cell? ⟨b, 0, none⟩ = some v) (hS : szN n ≤ a.wid) (hn : 0 < n) :
    Calls Tryz.prog 79 #[.agg #[.int .i64 (a.len : Nat), .int .i64 (a.wid : Nat), .int .i64 (a.stp : Nat), .func (.func K) #[] cs], .int .i64 n] w fun e w' => ∃ v, e = .returned v ∧ AxN w w' bs (drA a n) v ∧ Below w.heap.size w w' := by
  have HE : Hid (drA a n = ⟨a.wid - szN n, a.wid, a.stp, fun i => (i : Int) + ((szN n : Nat) : Int)⟩) := by
    show _ = _
    unfold drA
    rw [show min (szN n) a.wid = szN n by omega, if_pos hn]
  have hz := fun V => msize_any n V h1 h2
  have hle := szN_le n
  have t0 : decide (0 < n) = true := by simpa using hn
  obtain ⟨len, wid, stp, f⟩ := a
  dsimp only at *
  have hsh := fun V => shifted_eq ((szN n : Nat) : Int) V
  unfold shV at hsh
  generalize szN n = S at *
  obtain ⟨L, hL⟩ : ∃ L : Nat, wid - S = L := ⟨_, rfl⟩
  have hL' : (wid : Int) - (S : Int) = (L : Int) := by omega
  have w1 : IntKind.i64.wrap (L : Int) = (L : Int) := wrapIn _ (by omega)
  have hlt : ¬ (wid : Int) < (S : Int) := by omega
  have hlt2 : ¬ wid < S := by omega
  have HLL : Hid (wid - S = L) := hL
  clear hL
  go_enter Tryz.func79, Tryz.ntmps79
  go_wp2
  go_quiet (exact Calls.quiet_of_same (hz _))
  go_wp2_with (go_at_call 90; refine (hsh _).mono ?_; rintro e w' ⟨rfl, rfl⟩)
  (try simp only [Exit.inBlock, Exit.then])
  rw [HE.out, HLL.out]
  have bX : Below w.heap.size w (((w.alloc (.cells #[.int .i64 (len : Nat), .int .i64 (wid : Nat), .int .i64 (stp : Nat), .func (.func K) #[] cs] 76)).alloc (.cells #[.int .i64 0, .int .i64 0, .int .i64 0, .nilFunc] 76)).drewN nq) := below_drewN ((box_below w _).trans ((box_below _ _).mono (by simp))) nq
  refine bodyPost_ret (v := .agg #[.int .i64 (L : Nat), .int .i64 (wid : Nat), .int .i64 (stp : Nat), shV (w.heap.size + 1 + 1)]) (by simp [results, Tryz.results79]; go_simp; rfl) rfl ?_
  have bY := ((((((bX.setCell (p := ⟨w.heap.size, 0, none⟩) (Nat.le_refl _) (.int .i64 (L : Nat))).setCell (p := ⟨w.heap.size, 3, none⟩) (Nat.le_refl _) (shV (w.heap.size + 1 + 1))).setCell (p := ⟨w.heap.size + 1, 0, none⟩) (by simp) (.int .i64 (L : Nat))).setCell (p := ⟨w.heap.size + 1, 1, none⟩) (by simp) (.int .i64 (wid : Nat))).setCell (p := ⟨w.heap.size + 1, 2, none⟩) (by simp) (.int .i64 (stp : Nat))).setCell (p := ⟨w.heap.size + 1, 3, none⟩) (by simp) (shV (w.heap.size + 1 + 1)))
  have cY := fun X (h : X.heap.size = w.heap.size + 1 + 1) => (show (World.alloc X (.cells #[.int .i64 (S : Nat)] 3)).cell? ⟨w.heap.size + 1 + 1, 0, none⟩ = some (.int .i64 (S : Nat)) by rw [← h]; exact (cell_of_row _ _ 0 _ _ (0, 0) (allocNew X _)).trans rfl)
  refine ⟨_, rfl, ⟨_, _, [w.heap.size + 1 + 1], rfl, ?_, fun b m => ?_⟩, bY.trans ((box_below _ _).mono bY.size)⟩
  · refine way_sh (d := ((S : Nat) : Int)) wid stp hw hs ?_ (by omega) (by omega)
    exact cY _ (by simp)
  rw [List.mem_singleton] at m
  subst m
  refine ⟨⟨.int .i64 (S : Nat), ?_⟩, .inr (by omega)⟩
  exact cY _ (by simp)

set_option maxHeartbeats 2000000 in
theorem drop_b (a : Ax) (n : Int) (K : Nat) (cs : Array Value) (bs : List Nat) (w : World) (hw : a.wid ≤ 4096) (hs : a.stp ≤ 4096) (hl : a.len ≤ 1000000) (h1 : -9223372036854775808 ≤ n) (h2 : n ≤ 9223372036854775807) (hway : Way w bs a.wid a.stp a.f (.func (.func K) #[] cs)) (hbs : ∀ b, b ∈ bs → ∃ v, w.cell? ⟨b, 0, none⟩ = some v) (hS : a.wid < szN n) (hn : 0 < n) :
    Calls Tryz.prog 79 #[.agg #[.int .i64 (a.len : Nat), .int .i64 (a.wid : Nat), .int .i64 (a.stp : Nat), .func (.func K) #[] cs], .int .i64 n] w fun e w' => ∃ v, e = .returned v ∧ AxN w w' bs (drA a n) v ∧ Below w.heap.size w w' := by
  have HE : Hid (drA a n = ⟨a.wid - a.wid, a.wid, a.stp, fun i => (i : Int) + ((a.wid : Nat) : Int)⟩) := by
    show _ = _
    unfold drA
    rw [show min (szN n) a.wid = a.wid by omega, if_pos hn]
  have hz := fun V => msize_any n V h1 h2
  have hle := szN_le n
  have t0 : decide (0 < n) = true := by simpa using hn
  obtain ⟨len, wid, stp, f⟩ := a
  dsimp only at *
  have hsh := fun V => shifted_eq ((wid : Nat) : Int) V
  unfold shV at hsh
  generalize szN n = S at *
  obtain ⟨L, hL⟩ : ∃ L : Nat, wid - wid = L := ⟨_, rfl⟩
  have hL' : (wid : Int) - (wid : Int) = (L : Int) := by omega
  have w1 : IntKind.i64.wrap (L : Int) = (L : Int) := wrapIn _ (by omega)
  have hlt : (wid : Int) < (S : Int) := by omega
  have hlt2 : wid < S := by omega
  have HLL : Hid (wid - wid = L) := hL
  clear hL
  go_enter Tryz.func79, Tryz.ntmps79
  go_wp2
  go_quiet (exact Calls.quiet_of_same (hz _))
  go_wp2_with (go_at_call 90; refine (hsh _).mono ?_; rintro e w' ⟨rfl, rfl⟩)
  (try simp only [Exit.inBlock, Exit.then])
  rw [HE.out, HLL.out]
  have bX : Below w.heap.size w (((w.alloc (.cells #[.int .i64 (len : Nat), .int .i64 (wid : Nat), .int .i64 (stp : Nat), .func (.func K) #[] cs] 76)).alloc (.cells #[.int .i64 0, .int .i64 0, .int .i64 0, .nilFunc] 76)).drewN nq) := below_drewN ((box_below w _).trans ((box_below _ _).mono (by simp))) nq
  refine bodyPost_ret (v := .agg #[.int .i64 (L : Nat), .int .i64 (wid : Nat), .int .i64 (stp : Nat), shV (w.heap.size + 1 + 1)]) (by simp [results, Tryz.results79]; go_simp; rfl) rfl ?_
  have bY := ((((((bX.setCell (p := ⟨w.heap.size, 0, none⟩) (Nat.le_refl _) (.int .i64 (L : Nat))).setCell (p := ⟨w.heap.size, 3, none⟩) (Nat.le_refl _) (shV (w.heap.size + 1 + 1))).setCell (p := ⟨w.heap.size + 1, 0, none⟩) (by simp) (.int .i64 (L : Nat))).setCell (p := ⟨w.heap.size + 1, 1, none⟩) (by simp) (.int .i64 (wid : Nat))).setCell (p := ⟨w.heap.size + 1, 2, none⟩) (by simp) (.int .i64 (stp : Nat))).setCell (p := ⟨w.heap.size + 1, 3, none⟩) (by simp) (shV (w.heap.size + 1 + 1)))
  have cY := fun X (h : X.heap.size = w.heap.size + 1 + 1) => (show (World.alloc X (.cells #[.int .i64 (wid : Nat)] 3)).cell? ⟨w.heap.size + 1 + 1, 0, none⟩ = some (.int .i64 (wid : Nat)) by rw [← h]; exact (cell_of_row _ _ 0 _ _ (0, 0) (allocNew X _)).trans rfl)
  refine ⟨_, rfl, ⟨_, _, [w.heap.size + 1 + 1], rfl, ?_, fun b m => ?_⟩, bY.trans ((box_below _ _).mono bY.size)⟩
  · refine way_sh (d := ((wid : Nat) : Int)) wid stp hw hs ?_ (by omega) (by omega)
    exact cY _ (by simp)
  rw [List.mem_singleton] at m
  subst m
  refine ⟨⟨.int .i64 (wid : Nat), ?_⟩, .inr (by omega)⟩
  exact cY _ (by simp)

set_option maxHeartbeats 2000000 in
theorem drop_c (a : Ax) (n : Int) (K : Nat) (cs : Array Value) (bs : List Nat) (w : World) (hw : a.wid ≤ 4096) (hs : a.stp ≤ 4096) (hl : a.len ≤ 1000000) (h1 : -9223372036854775808 ≤ n) (h2 : n ≤ 9223372036854775807) (hway : Way w bs a.wid a.stp a.f (.func (.func K) #[] cs)) (hbs : ∀ b, b ∈ bs → ∃ v, w.cell? ⟨b, 0, none⟩ = some v) (hS : szN n ≤ a.wid) (hn : ¬ 0 < n) :
    Calls Tryz.prog 79 #[.agg #[.int .i64 (a.len : Nat), .int .i64 (a.wid : Nat), .int .i64 (a.stp : Nat), .func (.func K) #[] cs], .int .i64 n] w fun e w' => ∃ v, e = .returned v ∧ AxN w w' bs (drA a n) v ∧ Below w.heap.size w w' := by
  have HE : Hid (drA a n = ⟨a.wid - szN n, a.wid, a.stp, a.f⟩) := by
    show _ = _
    unfold drA
    rw [show min (szN n) a.wid = szN n by omega, if_neg hn]
  have hz := fun V => msize_any n V h1 h2
  have hle := szN_le n
  have t0 : decide (0 < n) = false := by simpa using hn
  obtain ⟨len, wid, stp, f⟩ := a
  dsimp only at *
  have hsh := fun V => shifted_eq ((szN n : Nat) : Int) V
  unfold shV at hsh
  generalize szN n = S at *
  obtain ⟨L, hL⟩ : ∃ L : Nat, wid - S = L := ⟨_, rfl⟩
  have hL' : (wid : Int) - (S : Int) = (L : Int) := by omega
  have w1 : IntKind.i64.wrap (L : Int) = (L : Int) := wrapIn _ (by omega)
  have hlt : ¬ (wid : Int) < (S : Int) := by omega
  have hlt2 : ¬ wid < S := by omega
  have HLL : Hid (wid - S = L) := hL
  clear hL
  go_enter Tryz.func79, Tryz.ntmps79
  go_wp2
  go_quiet (exact Calls.quiet_of_same (hz _))
  go_wp2_with (go_at_call 90; refine (hsh _).mono ?_; rintro e w' ⟨rfl, rfl⟩)
  (try simp only [Exit.inBlock, Exit.then])
  rw [HE.out, HLL.out]
  have bX : Below w.heap.size w (((w.alloc (.cells #[.int .i64 (len : Nat), .int .i64 (wid : Nat), .int .i64 (stp : Nat), .func (.func K) #[] cs] 76)).alloc (.cells #[.int .i64 0, .int .i64 0, .int .i64 0, .nilFunc] 76)).drewN nq) := below_drewN ((box_below w _).trans ((box_below _ _).mono (by simp))) nq
  refine bodyPost_ret (v := .agg #[.int .i64 (L : Nat), .int .i64 (wid : Nat), .int .i64 (stp : Nat), .func (.func K) #[] cs]) (by simp [results, Tryz.results79]; go_simp) rfl ?_
  have bY := (((((bX.setCell (p := ⟨w.heap.size, 0, none⟩) (Nat.le_refl _) (.int .i64 (L : Nat))).setCell (p := ⟨w.heap.size + 1, 0, none⟩) (by simp) (.int .i64 (L : Nat))).setCell (p := ⟨w.heap.size + 1, 1, none⟩) (by simp) (.int .i64 (wid : Nat))).setCell (p := ⟨w.heap.size + 1, 2, none⟩) (by simp) (.int .i64 (stp : Nat))).setCell (p := ⟨w.heap.size + 1, 3, none⟩) (by simp) (.func (.func K) #[] cs))
  exact ⟨_, rfl, axn_same (a := ⟨L, wid, stp, f⟩) hway hbs bY, bY⟩

set_option maxHeartbeats 2000000 in
theorem drop_d (a : Ax) (n : Int) (K : Nat) (cs : Array Value) (bs : List Nat) (w : World) (hw : a.wid ≤ 4096) (hs : a.stp ≤ 4096) (hl : a.len ≤ 1000000) (h1 : -9223372036854775808 ≤ n) (h2 : n ≤ 9223372036854775807) (hway : Way w bs a.wid a.stp a.f (.func (.func K) #[] cs)) (hbs : ∀ b, b ∈ bs → ∃ v, w.cell? ⟨b, 0, none⟩ = some v) (hS : a.wid < szN n) (hn : ¬ 0 < n) :
    Calls Tryz.prog 79 #[.agg #[.int .i64 (a.len : Nat), .int .i64 (a.wid : Nat), .int .i64 (a.stp : Nat), .func (.func K) #[] cs], .int .i64 n] w fun e w' => ∃ v, e = .returned v ∧ AxN w w' bs (drA a n) v ∧ Below w.heap.size w w' := by
  have HE : Hid (drA a n = ⟨a.wid - a.wid, a.wid, a.stp, a.f⟩) := by
    show _ = _
    unfold drA
    rw [show min (szN n) a.wid = a.wid by omega, if_neg hn]
  have hz := fun V => msize_any n V h1 h2
  have hle := szN_le n
  have t0 : decide (0 < n) = false := by simpa using hn
  obtain ⟨len, wid, stp, f⟩ := a
  dsimp only at *
  have hsh := fun V => shifted_eq ((wid : Nat) : Int) V
  unfold shV at hsh
  generalize szN n = S at *
  obtain ⟨L, hL⟩ : ∃ L : Nat, wid - wid = L := ⟨_, rfl⟩
  have hL' : (wid : Int) - (wid : Int) = (L : Int) := by omega
  have w1 : IntKind.i64.wrap (L : Int) = (L : Int) := wrapIn _ (by omega)
  have hlt : (wid : Int) < (S : Int) := by omega
  have hlt2 : wid < S := by omega
  have HLL : Hid (wid - wid = L) := hL
  clear hL
  go_enter Tryz.func79, Tryz.ntmps79
  go_wp2
  go_quiet (exact Calls.quiet_of_same (hz _))
  go_wp2_with (go_at_call 90; refine (hsh _).mono ?_; rintro e w' ⟨rfl, rfl⟩)
  (try simp only [Exit.inBlock, Exit.then])
  rw [HE.out, HLL.out]
  have bX : Below w.heap.size w (((w.alloc (.cells #[.int .i64 (len : Nat), .int .i64 (wid : Nat), .int .i64 (stp : Nat), .func (.func K) #[] cs] 76)).alloc (.cells #[.int .i64 0, .int .i64 0, .int .i64 0, .nilFunc] 76)).drewN nq) := below_drewN ((box_below w _).trans ((box_below _ _).mono (by simp))) nq
  refine bodyPost_ret (v := .agg #[.int .i64 (L : Nat), .int .i64 (wid : Nat), .int .i64 (stp : Nat), .func (.func K) #[] cs]) (by simp [results, Tryz.results79]; go_simp) rfl ?_
  have bY := (((((bX.setCell (p := ⟨w.heap.size, 0, none⟩) (Nat.le_refl _) (.int .i64 (L : Nat))).setCell (p := ⟨w.heap.size + 1, 0, none⟩) (by simp) (.int .i64 (L : Nat))).setCell (p := ⟨w.heap.size + 1, 1, none⟩) (by simp) (.int .i64 (wid : Nat))).setCell (p := ⟨w.heap.size + 1, 2, none⟩) (by simp) (.int .i64 (stp : Nat))).setCell (p := ⟨w.heap.size + 1, 3, none⟩) (by simp) (.func (.func K) #[] cs))
  exact ⟨_, rfl, axn_same (a := ⟨L, wid, stp, f⟩) hway hbs bY, bY⟩

theorem drop_any (a : Ax) (n : Int) (K : Nat) (cs : Array Value) (bs : List Nat) (w : World) (hw : a.wid ≤ 4096) (hs : a.stp ≤ 4096) (hl : a.len ≤ 1000000) (h1 : -9223372036854775808 ≤ n) (h2 : n ≤ 9223372036854775807) (hway : Way w bs a.wid a.stp a.f (.func (.func K) #[] cs)) (hbs : ∀ b, b ∈ bs → ∃ v, w.cell? ⟨b, 0, none⟩ = some v) :
    Calls Tryz.prog 79 #[.agg #[.int .i64 (a.len : Nat), .int .i64 (a.wid : Nat), .int .i64 (a.stp : Nat), .func (.func K) #[] cs], .int .i64 n] w fun e w' => ∃ v, e = .returned v ∧ AxN w w' bs (drA a n) v ∧ Below w.heap.size w w' := by
  by_cases hS : szN n ≤ a.wid
  · by_cases hn : 0 < n
    · exact drop_a a n K cs bs w hw hs hl h1 h2 hway hbs hS hn
    · exact drop_c a n K cs bs w hw hs hl h1 h2 hway hbs hS hn
  · by_cases hn : 0 < n
    · exact drop_b a n K cs bs w hw hs hl h1 h2 hway hbs (by omega) hn
    · exact drop_d a n K cs bs w hw hs hl h1 h2 hway hbs (by omega) hn

set_option maxHeartbeats 4000000 in
set_option maxRecDepth 20000 in
theorem alongAxes_drop (w0 : World) (xso xo so ao : Option Addr) (xsn xsc xn xc sn sc an ac g n gc : Nat) (xs at' : List Int) (axs : List Ax) (w : World) (hx : Rd w0 xo xn xs) (ha : Rd w0 ao an at') (hb : Below w0.heap.size w0 w) (hg : w0.heap.size ≤ g) (hax : Axs w g n axs) (hn : n ≤ 5000) (hle : xn ≤ n) (hl0 : ∀ k, k < n → (nax axs k).len ≤ 1000000) (hl : ∀ k, k < n → (nax (chL drA axs xs) k).len ≤ 1000000)
    (hp : mayF (lens (chL drA axs xs)) = 0 → ∀ p, p ∈ pls (chL drA axs xs) → p = -1 ∨ (0 ≤ p ∧ p < an)) :
    Calls Tryz.prog 80 #[.agg #[.slice xso xsn xsc, .slice xo xn xc], .agg #[.slice so sn sc, .slice ao an ac], .slice (some ⟨g, 0, none⟩) n gc, .func (.func 79) #[] #[]] w fun e w' => ∃ o1 n1 c1 o2 n2 c2, e = .returned (.tuple #[.agg #[.slice o1 n1 c1, .slice o2 n2 c2], .int .i64 (mayF (lens (chL drA axs xs)))]) ∧ Ft 3 w' w0.heap.size o1 n1 c1 (filS (lens (chL drA axs xs))) ∧ Ft 2 w' w0.heap.size o2 n2 c2 (gthS at' (chL drA axs xs)) ∧ Below w0.heap.size w0 w' := by
  have hgl := hax.lt
  have A0 := al_start xso xsn xsc xo xn xc so sn sc ao an ac hb hax
  have HXL : Hid (xs.length = xn) := hx.len
  have HAL : Hid (axs.length = n) := hax.len
  have HL : Hid (∀ k, k < n → (nax (chL drA axs xs) k).len ≤ 1000000) := hl
  have HL0 : Hid (∀ k, k < n → (nax axs k).len ≤ 1000000) := hl0
  have HP : Hid (mayF (lens (chL drA axs xs)) = 0 → ∀ p, p ∈ pls (chL drA axs xs) → p = -1 ∨ (0 ≤ p ∧ p < an)) := hp
  have t0 : decide (n < xn) = false := by simp; omega
  clear hax hl hp hl0
  obtain ⟨x0, x1, _, _⟩ := box2 A0.c0
  go_enter Tryz.func80, Tryz.ntmps80
  go_wp2
  clear x0 x1
  generalize (((w.alloc (.cells #[.slice xso xsn xsc, .slice xo xn xc] 25)).alloc (.cells #[.slice so sn sc, .slice ao an ac] 25)).alloc (.cells #[.slice none 0 0, .slice none 0 0] 25)) = W0 at *
  go_loopw [22] (fun i V => ∃ k : Nat, k ≤ xn ∧ i = .int .i64 (k : Nat) ∧ Al w0 w V g n (chL drA axs (xs.take k)) xso xsn xsc xo xn xc so sn sc ao an ac) (fun i _ => xn - (intOf i).toNat)
  case atStart => exact ⟨0, Nat.zero_le _, rfl, by rw [List.take_zero, chL_nil]; exact A0⟩
  case round =>
    obtain ⟨k, hk, rfl, A⟩ := hrel
    clear A0
    by_cases hlt : k < xn
    · obtain ⟨e1, e2⟩ := chL_step drA axs xs k (by rw [HAL.out]; omega) (by rw [HXL.out]; exact hlt)
      have hkn : k < n := by omega
      obtain ⟨b, off, rfl, hbb, hc⟩ := (hx.below A.bel (Nat.le_refl _)).cells (by omega)
      have c1 := hc k hlt
      have hnum := hx.num k hlt
      obtain ⟨K, cs, bs, y0, y1, y2, y3, hway, hbs, hwd, hst⟩ := A.ax.at2 hkn
      rw [e2] at y0 y1 y2 hway hwd hst
      have hcall := drop_any (nax axs k) (nth xs k) K cs bs wr hwd hst (HL0.out k hkn) hnum.1 hnum.2 hway (fun b m => (hbs b m).1)
      have HE : Hid (chL drA axs (xs.take (k + 1)) = (chL drA axs (xs.take k)).set k (drA (nax axs k) (nth xs k))) := e1
      have HB : Hid (∀ b, b ∈ bs → (∃ v, wr.cell? ⟨b, 0, none⟩ = some v) ∧ b ≠ g) := hbs
      have HWD : Hid ((drA (nax axs k) (nth xs k)).wid ≤ 4096 ∧ (drA (nax axs k) (nth xs k)).stp ≤ 4096) := drA_bd hwd hst
      have bk : (k : Int) < (n : Int) := by omega
      clear hc e1 e2 hway hbs hwd hst hnum
      go_wp2_with (go_at_call 79; (with_reducible refine hcall.mono ?_); rintro e w3 ⟨v, rfl, ⟨K', cs', bs', rfl, way', out'⟩, b3⟩; have A3 := A.below b3; obtain ⟨s0, s1, s2, s3, z0, z1, z2, z3, f0, f1, f2, f3⟩ := A3.ax.slots hkn)
      go_roundw
      case rel =>
        refine ⟨k + 1, by omega, by go_num, ?_⟩
        rw [HE.out]
        refine A3.put hkn hgl hg (bs := bs') ⟨way', fun b m => ?_, HWD.out.1, HWD.out.2⟩
        refine ⟨(out' b m).1, ?_⟩
        rcases (out' b m).2 with h | h
        · exact (HB.out b h).2
        · have := A.ax.lt; omega
      case measure => simp [intOf]; omega
    · obtain rfl : xn = k := by omega
      rw [List.take_of_length_le (by rw [HXL.out]; exact Nat.le_refl _)] at A
      have hcall := gather_any so ao (some ⟨g, 0, none⟩) sn sc an ac n gc at' (chL drA axs xs) wr (ha.below A.bel (Nat.le_refl _)) A.ax.ax hn HL.out HP.out
      obtain ⟨x0, x1, _, _⟩ := box2 A.d0
      go_wp2_with (go_at_call 61; (with_reducible refine hcall.mono ?_); rintro e w3 ⟨o1, n1, c1, o2, n2, c2, rfl, f1, f2, b3⟩; have A3 := A.below b3; obtain ⟨z0, z1, z2, z3⟩ := box2 A3.r)
      (try simp only [Exit.inBlock, Exit.then])
      refine bodyPost_ret (v := .tuple #[.agg #[.slice o1 n1 c1, .slice o2 n2 c2], .int .i64 (mayF (lens (chL drA axs xs)))]) (by rw [results_cell_tmp rfl]; go_simp) rfl ?_
      have hs := A.sz
      have hbz := A.bel.size
      have hb0 := hb.size
      exact ⟨o1, n1, c1, o2, n2, c2, rfl, (ft_set (w := w) f1 (by omega) _ _).mono (by omega), (ft_set (w := w) f2 (by omega) _ _).mono (by omega), below_set2 _ _ _ _ A3.bel (by omega) (Nat.le_refl _)⟩

set_option maxHeartbeats 4000000 in
set_option maxRecDepth 20000 in
theorem cut_drop (xso xo so ao : Option Addr) (xsn xsc xn xc sn sc an ac : Nat) (xs sh at' : List Int) (w : World) (hx : Rd w xo xn xs) (hs : Rd w so sn sh) (ha : Rd w ao an at') (h0 : mayF sh = 0) (hsn : 0 < sn) (hle : xn ≤ sn) (hl : ∀ k, k < sn → (nax (chL drA (axsOf sh) xs) k).len ≤ 1000000)
    (hp : mayF (lens (chL drA (axsOf sh) xs)) = 0 → ∀ p, p ∈ pls (chL drA (axsOf sh) xs) → p = -1 ∨ (0 ≤ p ∧ p < an)) :
    Calls Tryz.prog 77 #[.agg #[.slice xso xsn xsc, .slice xo xn xc], .agg #[.slice so sn sc, .slice ao an ac], .func (.func 79) #[] #[]] w fun e w' => ∃ o1 n1 c1 o2 n2 c2, e = .returned (.tuple #[.agg #[.slice o1 n1 c1, .slice o2 n2 c2], .int .i64 (mayF (lens (chL drA (axsOf sh) xs)))]) ∧ Ft 3 w' w.heap.size o1 n1 c1 (filS (lens (chL drA (axsOf sh) xs))) ∧ Ft 2 w' w.heap.size o2 n2 c2 (gthS at' (chL drA (axsOf sh) xs)) ∧ Below w.heap.size w w' := by
  have D0 := du_start w xso xsn xsc xo xn xc so sn sc ao an ac
  have hsl := hs.len
  have hsn8 : sn ≤ 8 := by rw [← hsl]; exact (mayF_zero h0).2.1
  have D1 := D0.drew
  generalize hW1 : (((w.alloc (.cells #[.slice xso xsn xsc, .slice xo xn xc] 25)).alloc (.cells #[.slice so sn sc, .slice ao an ac] 25)).alloc (.cells #[.slice none 0 0, .slice none 0 0] 25)).drew = W1 at D1
  have cAx := axesOf_any so sn sc sh W1 (hs.below D1.bel (Nat.le_refl _)) (by omega) (fun k hk => nth_small h0 (by omega)) (fun k hk => drop_small h0 k)
  have hG : W1.heap.size = w.heap.size + 1 + 1 + 1 := by rw [← hW1]; simp
  have cAl := fun w4 (k4 : Below (w.heap.size + 1 + 1 + 1) W1 w4) (X4 : Axs w4 (w.heap.size + 1 + 1 + 1) sn (axsOf sh)) => alongAxes_drop W1 xso xo so ao xsn xsc xn xc sn sc an ac (w.heap.size + 1 + 1 + 1) sn sn xs at' (axsOf sh) w4 (hx.below D1.bel (Nat.le_refl _)) (ha.below D1.bel (Nat.le_refl _)) (by rw [hG]; exact k4) (by omega) X4 (by omega) hle (fun k hk => by
    rw [axsOf_nax (by omega)]
    have := nth_small h0 (k := k) (by omega)
    show (nth sh k).toNat ≤ 1000000
    omega) hl hp
  have tsn : decide (0 < sn) = true := by simpa using hsn
  have tsn2 : ¬ sn = 0 := by omega
  have tsn3 : ((sn : Int) == 0) = false := by simp; omega
  have hsz1 := D1.sz
  rw [hG] at cAx cAl
  subst hW1
  clear hl hp hsn hle h0 hsl
  obtain ⟨x0, x1, x2, x3, _⟩ := D0.all
  go_enter Tryz.func77, Tryz.ntmps77
  go_wp2
  clear x0 x1 x2 x3
  go_region_held3 (fun V => V.cell? ⟨w.heap.size, 0, none⟩ = some (.slice xso xsn xsc) ∧ V.cell? ⟨w.heap.size, 1, none⟩ = some (.slice xo xn xc) ∧ V.cell? ⟨w.heap.size + 1, 0, none⟩ = some (.slice so sn sc) ∧ V.cell? ⟨w.heap.size + 1, 1, none⟩ = some (.slice ao an ac) ∧ Du w V xso xsn xsc xo xn xc so sn sc ao an ac) (first | exact Du.all (by assumption) | exact Du.all (Du.drew (by assumption)) | exact Du.all (Du.set (by assumption) _ _))
    (first
      | (go_at_call 59; (with_reducible refine cAx.mono ?_); rintro e w4 ⟨rfl, X4, k4⟩; have D4 := D1.below k4 (Nat.le_of_eq hG))
      | (go_at_call 80; (with_reducible refine (cAl w4 k4 X4).mono ?_); rintro e w5 ⟨o1, n1, c1, o2, n2, c2, rfl, f1, f2, k5⟩; have D5 := D1.below k5 (Nat.le_of_eq hG); obtain ⟨u5, v5, hr5⟩ := D5.r; obtain ⟨z0, z1, z2, z3⟩ := box2 hr5))
  go_wp2
  (try simp only [Exit.inBlock, Exit.then])
  refine bodyPost_ret (v := .tuple #[.agg #[.slice o1 n1 c1, .slice o2 n2 c2], .int .i64 (mayF (lens (chL drA (axsOf sh) xs)))]) (by rw [results_cell_tmp rfl]; go_simp) rfl ?_
  exact ⟨o1, n1, c1, o2, n2, c2, rfl, (ft_set (w := w) f1 (by omega) _ _).mono (by omega), (ft_set (w := w) f2 (by omega) _ _).mono (by omega), below_set2 _ _ _ _ D5.bel (by omega) (Nat.le_refl _)⟩
end Go.Proofs.YtpfdiammgdnhmaaGreat
