
/- MoldCuts: the parts may be; one behind the other they are the array. -/

import Derived.Test.YtpfdiammgdnhmaaGreatMJ
import Derived.Test.YtpfdiammgdnhmaaGreatRA
import Derived.Test.YtpfdiammgdnhmaaGreatRB

namespace Go.Proofs.YtpfdiammgdnhmaaGreat

open Go.RowKit

set_option linter.unusedVariables false


set_option maxHeartbeats 2000000 in
theorem drop_a (a : Ax) (n : Int) (K : Nat) (cs : Array Value) (bs : List Nat) (w : World) (hw : a.wid ≤ 4096) (hs : a.stp ≤ 4096) (hl : a.len ≤ 1000000) (h1 : -9223372036854775808 ≤ n) (h2 : n ≤ 9223372036854775807) (hway : Way w bs a.wid a.stp a.f (.func (.func K) #[] cs)) (hbs : ∀ b, b ∈ bs → ∃ v, w.cell? ⟨b, 0, none⟩ = some v) (hS : szN n ≤ a.wid) (hn : 0 < n) :
    Calls Tryz.prog 79 #[.agg #[.int .i64 (a.len : Nat), .int .i64 (a.wid : Nat), .int .i64 (a.stp : Nat), .func (.func K) #[] cs], .int .i64 n] w fun e w' => ∃ v, e = .returned v ∧ AxN w w' bs (drA a n) v ∧ Below w.heap.size w w' := by
  have HE : Hid (drA a n = ⟨a.wid - szN n, a.wid, a.stp, fun i => (i : Int) + ((szN n : Nat) : Int)⟩) := by
    show _ = _
    unfold drA
    rw [show min (szN n) a.wid = szN n by omega, if_pos hn]
  have hz := fun V => msize_any n V h1 h2
  have hle := szN_le n
  have t0 : decide (0 < n) = true := by simpa using hn
  obtain ⟨len, wid, stp, f⟩ := a
  dsimp only at *
  have hsh := fun V => shifted_eq ((szN n : Nat) : Int) V
  unfold shV at hsh
  generalize szN n = S at *
  obtain ⟨L, hL⟩ : ∃ L : Nat, wid - S = L := ⟨_, rfl⟩
  have hL' : (wid : Int) - (S : Int) = (L : Int) := by omega
  have w1 : IntKind.i64.wrap (L : Int) = (L : Int) := wrapIn _ (by omega)
  have hlt : ¬ (wid : Int) < (S : Int) := by omega
  have hlt2 : ¬ wid < S := by omega
  have HLL : Hid (wid - S = L) := hL
  clear hL
  go_enter Tryz.func79, Tryz.ntmps79
  go_wp2
  go_quiet (exact Calls.quiet_of_same (hz _))
  go_wp2_with (go_at_call 90; refine (hsh _).mono ?_; rintro e w' ⟨rfl, rfl⟩)
  (try simp only [Exit.inBlock, Exit.then])
  rw [HE.out, HLL.out]
  have bX : Below w.heap.size w (((w.alloc (.cells #[.int .i64 (len : Nat), .int .i64 (wid : Nat), .int .i64 (stp : Nat), .func (.func K) #[] cs] 76)).alloc (.cells #[.int .i64 0, .int .i64 0, .int .i64 0, .nilFunc] 76)).drewN nq) := below_drewN ((box_below w _).trans ((box_below _ _).mono (by simp))) nq
  refine bodyPost_ret (v := .agg #[.int .i64 (L : Nat), .int .i64 (wid : Nat), .int .i64 (stp : Nat), shV (w.heap.size + 1 + 1)]) (by simp [results, Tryz.results79]; go_simp; rfl) rfl ?_
  have bY := ((((((bX.setCell (p := ⟨w.heap.size, 0, none⟩) (Nat.le_refl _) (.int .i64 (L : Nat))).setCell (p := ⟨w.heap.size, 3, none⟩) (Nat.le_refl _) (shV (w.heap.size + 1 + 1))).setCell (p := ⟨w.heap.size + 1, 0, none⟩) (by simp) (.int .i64 (L : Nat))).setCell (p := ⟨w.heap.size + 1, 1, none⟩) (by simp) (.int .i64 (wid : Nat))).setCell (p := ⟨w.heap.size + 1, 2, none⟩) (by simp) (.int .i64 (stp : Nat))).setCell (p := ⟨w.heap.size + 1, 3, none⟩) (by simp) (shV (w.heap.size + 1 + 1)))
  have cY := fun X (h : X.heap.size = w.heap.size + 1 + 1) => (show (World.alloc X (.cells #[.int .i64 (S : Nat)] 3)).cell? ⟨w.heap.size + 1 + 1, 0, none⟩ = some (.int .i64 (S : Nat)) by rw [← h]; exact (cell_of_row _ _ 0 _ _ (0, 0) (allocNew X _)).trans rfl)
  refine ⟨_, rfl, ⟨_, _, [w.heap.size + 1 + 1], rfl, ?_, fun b m => ?_⟩, bY.trans ((box_below _ _).mono bY.size)⟩
  · refine way_sh (d := ((S : Nat) : Int)) wid stp hw hs ?_ (by omega) (by omega)
    exact cY _ (by simp)
  rw [List.mem_singleton] at m
  subst m
  refine ⟨⟨.int .i64 (S : Nat), ?_⟩, .inr (by omega)⟩
  exact cY _ (by simp)

set_option maxHeartbeats 2000000 in
theorem drop_b (a : Ax) (n : Int) (K : Nat) (cs : Array Value) (bs : List Nat) (w : World) (hw : a.wid ≤ 4096) (hs : a.stp ≤ 4096) (hl : a.len ≤ 1000000) (h1 : -9223372036854775808 ≤ n) (h2 : n ≤ 9223372036854775807) (hway : Way w bs a.wid a.stp a.f (.func (.func K) #[] cs)) (hbs : ∀ b, b ∈ bs → ∃ v, w.cell? ⟨b, 0, none⟩ = some v) (hS : a.wid < szN n) (hn : 0 < n) :
    Calls Tryz.prog 79 #[.agg #[.int .i64 (a.len : Nat), .int .i64 (a.wid : Nat), .int .i64 (a.stp : Nat), .func (.func K) #[] cs], .int .i64 n] w fun e w' => ∃ v, e = .returned v ∧ AxN w w' bs (drA a n) v ∧ Below w.heap.size w w' := by
  have HE : Hid (drA a n = ⟨a.wid - a.wid, a.wid, a.stp, fun i => (i : Int) + ((a.wid : Nat) : Int)⟩) := by
    show _ = _
    unfold drA
    rw [show min (szN n) a.wid = a.wid by omega, if_pos hn]
  have hz := fun V => msize_any n V h1 h2
  have hle := szN_le n
  have t0 : decide (0 < n) = true := by simpa using hn
  obtain ⟨len, wid, stp, f⟩ := a
  dsimp only at *
  have hsh := fun V => shifted_eq ((wid : Nat) : Int) V
  unfold shV at hsh
  generalize szN n = S at *
  obtain ⟨L, hL⟩ : ∃ L : Nat, wid - wid = L := ⟨_, rfl⟩
  have hL' : (wid : Int) - (wid : Int) = (L : Int) := by omega
  have w1 : IntKind.i64.wrap (L : Int) = (L : Int) := wrapIn _ (by omega)
  have hlt : (wid : Int) < (S : Int) := by omega
  have hlt2 : wid < S := by omega
  have HLL : Hid (wid - wid = L) := hL
  clear hL
  go_enter Tryz.func79, Tryz.ntmps79
  go_wp2
  go_quiet (exact Calls.quiet_of_same (hz _))
  go_wp2_with (go_at_call 90; refine (hsh _).mono ?_; rintro e w' ⟨rfl, rfl⟩)
  (try simp only [Exit.inBlock, Exit.then])
  rw [HE.out, HLL.out]
  have bX : Below w.heap.size w (((w.alloc (.cells #[.int .i64 (len : Nat), .int .i64 (wid : Nat), .int .i64 (stp : Nat), .func (.func K) #[] cs] 76)).alloc (.cells #[.int .i64 0, .int .i64 0, .int .i64 0, .nilFunc] 76)).drewN nq) := below_drewN ((box_below w _).trans ((box_below _ _).mono (by simp))) nq
  refine bodyPost_ret (v := .agg #[.int .i64 (L : Nat), .int .i64 (wid : Nat), .int .i64 (stp : Nat), shV (w.heap.size + 1 + 1)]) (by simp [results, Tryz.results79]; go_simp; rfl) rfl ?_
  have bY := ((((((bX.setCell (p := ⟨w.heap.size, 0, none⟩) (Nat.le_refl _) (.int .i64 (L : Nat))).setCell (p := ⟨w.heap.size, 3, none⟩) (Nat.le_refl _) (shV (w.heap.size + 1 + 1))).setCell (p := ⟨w.heap.size + 1, 0, none⟩) (by simp) (.int .i64 (L : Nat))).setCell (p := ⟨w.heap.size + 1, 1, none⟩) (by simp) (.int .i64 (wid : Nat))).setCell (p := ⟨w.heap.size + 1, 2, none⟩) (by simp) (.int .i64 (stp : Nat))).setCell (p := ⟨w.heap.size + 1, 3, none⟩) (by simp) (shV (w.heap.size + 1 + 1)))
  have cY := fun X (h : X.heap.size = w.heap.size + 1 + 1) => (show (World.alloc X (.cells #[.int .i64 (wid : Nat)] 3)).cell? ⟨w.heap.size + 1 + 1, 0, none⟩ = some (.int .i64 (wid : Nat)) by rw [← h]; exact (cell_of_row _ _ 0 _ _ (0, 0) (allocNew X _)).trans rfl)
  refine ⟨_, rfl, ⟨_, _, [w.heap.size + 1 + 1], rfl, ?_, fun b m => ?_⟩, bY.trans ((box_below _ _).mono bY.size)⟩
  · refine way_sh (d := ((wid : Nat) : Int)) wid stp hw hs ?_ (by omega) (by omega)
    exact cY _ (by simp)
  rw [List.mem_singleton] at m
  subst m
  refine ⟨⟨.int .i64 (wid : Nat), ?_⟩, .inr (by omega)⟩
  exact cY _ (by simp)

set_option maxHeartbeats 2000000 in
theorem drop_c (a : Ax) (n : Int) (K : Nat) (cs : Array Value) (bs : List Nat) (w : World) (hw : a.wid ≤ 4096) (hs : a.stp ≤ 4096) (hl : a.len ≤ 1000000) (h1 : -9223372036854775808 ≤ n) (h2 : n ≤ 9223372036854775807) (hway : Way w bs a.wid a.stp a.f (.func (.func K) #[] cs)) (hbs : ∀ b, b ∈ bs → ∃ v, w.cell? ⟨b, 0, none⟩ = some v) (hS : szN n ≤ a.wid) (hn : ¬ 0 < n) :
    Calls Tryz.prog 79 #[.agg #[.int .i64 (a.len : Nat), .int .i64 (a.wid : Nat), .int .i64 (a.stp : Nat), .func (.func K) #[] cs], .int .i64 n] w fun e w' => ∃ v, e = .returned v ∧ AxN w w' bs (drA a n) v ∧ Below w.heap.size w w' := by
  have HE : Hid (drA a n = ⟨a.wid - szN n, a.wid, a.stp, a.f⟩) := by
    show _ = _
    unfold drA
    rw [show min (szN n) a.wid = szN n by omega, if_neg hn]
  have hz := fun V => msize_any n V h1 h2
  have hle := szN_le n
  have t0 : decide (0 < n) = false := by simpa using hn
  obtain ⟨len, wid, stp, f⟩ := a
  dsimp only at *
  have hsh := fun V => shifted_eq ((szN n : Nat) : Int) V
  unfold shV at hsh
  generalize szN n = S at *
  obtain ⟨L, hL⟩ : ∃ L : Nat, wid - S = L := ⟨_, rfl⟩
  have hL' : (wid : Int) - (S : Int) = (L : Int) := by omega
  have w1 : IntKind.i64.wrap (L : Int) = (L : Int) := wrapIn _ (by omega)
  have hlt : ¬ (wid : Int) < (S : Int) := by omega
  have hlt2 : ¬ wid < S := by omega
  have HLL : Hid (wid - S = L) := hL
  clear hL
  go_enter Tryz.func79, Tryz.ntmps79
  go_wp2
  go_quiet (exact Calls.quiet_of_same (hz _))
  go_wp2_with (go_at_call 90; refine (hsh _).mono ?_; rintro e w' ⟨rfl, rfl⟩)
  (try simp only [Exit.inBlock, Exit.then])
  rw [HE.out, HLL.out]
  have bX : Below w.heap.size w (((w.alloc (.cells #[.int .i64 (len : Nat), .int .i64 (wid : Nat), .int .i64 (stp : Nat), .func (.func K) #[] cs] 76)).alloc (.cells #[.int .i64 0, .int .i64 0, .int .i64 0, .nilFunc] 76)).drewN nq) := below_drewN ((box_below w _).trans ((box_below _ _).mono (by simp))) nq
  refine bodyPost_ret (v := .agg #[.int .i64 (L : Nat), .int .i64 (wid : Nat), .int .i64 (stp : Nat), .func (.func K) #[] cs]) (by simp [results, Tryz.results79]; go_simp) rfl ?_
  have bY := (((((bX.setCell (p := ⟨w.heap.size, 0, none⟩) (Nat.le_refl _) (.int .i64 (L : Nat))).setCell (p := ⟨w.heap.size + 1, 0, none⟩) (by simp) (.int .i64 (L : Nat))).setCell (p := ⟨w.heap.size + 1, 1, none⟩) (by simp) (.int .i64 (wid : Nat))).setCell (p := ⟨w.heap.size + 1, 2, none⟩) (by simp) (.int .i64 (stp : Nat))).setCell (p := ⟨w.heap.size + 1, 3, none⟩) (by simp) (.func (.func K) #[] cs))
  exact ⟨_, rfl, axn_same (a := ⟨L, wid, stp, f⟩) hway hbs bY, bY⟩

set_option maxHeartbeats 2000000 in
theorem drop_d (a : Ax) (n : Int) (K : Nat) (cs : Array Value) (bs : List Nat) (w : World) (hw : a.wid ≤ 4096) (hs : a.stp ≤ 4096) (hl : a.len ≤ 1000000) (h1 : -9223372036854775808 ≤ n) (h2 : n ≤ 9223372036854775807) (hway : Way w bs a.wid a.stp a.f (.func (.func K) #[] cs)) (hbs : ∀ b, b ∈ bs → ∃ v, w.cell? ⟨b, 0, none⟩ = some v) (hS : a.wid < szN n) (hn : ¬ 0 < n) :
    Calls Tryz.prog 79 #[.agg #[.int .i64 (a.len : Nat), .int .i64 (a.wid : Nat), .int .i64 (a.stp : Nat), .func (.func K) #[] cs], .int .i64 n] w fun e w' => ∃ v, e = .returned v ∧ AxN w w' bs (drA a n) v ∧ Below w.heap.size w w' := by
  have HE : Hid (drA a n = ⟨a.wid - a.wid, a.wid, a.stp, a.f⟩) := by
    show _ = _
    unfold drA
    rw [show min (szN n) a.wid = a.wid by omega, if_neg hn]
  have hz := fun V => msize_any n V h1 h2
  have hle := szN_le n
  have t0 : decide (0 < n) = false := by simpa using hn
  obtain ⟨len, wid, stp, f⟩ := a
  dsimp only at *
  have hsh := fun V => shifted_eq ((wid : Nat) : Int) V
  unfold shV at hsh
  generalize szN n = S at *
  obtain ⟨L, hL⟩ : ∃ L : Nat, wid - wid = L := ⟨_, rfl⟩
  have hL' : (wid : Int) - (wid : Int) = (L : Int) := by omega
  have w1 : IntKind.i64.wrap (L : Int) = (L : Int) := wrapIn _ (by omega)
  have hlt : (wid : Int) < (S : Int) := by omega
  have hlt2 : wid < S := by omega
  have HLL : Hid (wid - wid = L) := hL
  clear hL
  go_enter Tryz.func79, Tryz.ntmps79
  go_wp2
  go_quiet (exact Calls.quiet_of_same (hz _))
  go_wp2_with (go_at_call 90; refine (hsh _).mono ?_; rintro e w' ⟨rfl, rfl⟩)
  (try simp only [Exit.inBlock, Exit.then])
  rw [HE.out, HLL.out]
  have bX : Below w.heap.size w (((w.alloc (.cells #[.int .i64 (len : Nat), .int .i64 (wid : Nat), .int .i64 (stp : Nat), .func (.func K) #[] cs] 76)).alloc (.cells #[.int .i64 0, .int .i64 0, .int .i64 0, .nilFunc] 76)).drewN nq) := below_drewN ((box_below w _).trans ((box_below _ _).mono (by simp))) nq
  refine bodyPost_ret (v := .agg #[.int .i64 (L : Nat), .int .i64 (wid : Nat), .int .i64 (stp : Nat), .func (.func K) #[] cs]) (by simp [results, Tryz.results79]; go_simp) rfl ?_
  have bY := (((((bX.setCell (p := ⟨w.heap.size, 0, none⟩) (Nat.le_refl _) (.int .i64 (L : Nat))).setCell (p := ⟨w.heap.size + 1, 0, none⟩) (by simp) (.int .i64 (L : Nat))).setCell (p := ⟨w.heap.size + 1, 1, none⟩) (by simp) (.int .i64 (wid : Nat))).setCell (p := ⟨w.heap.size + 1, 2, none⟩) (by simp) (.int .i64 (stp : Nat))).setCell (p := ⟨w.heap.size + 1, 3, none⟩) (by simp) (.func (.func K) #[] cs))
  exact ⟨_, rfl, axn_same (a := ⟨L, wid, stp, f⟩) hway hbs bY, bY⟩

theorem drop_any (a : Ax) (n : Int) (K : Nat) (cs : Array Value) (bs : List Nat) (w : World) (hw : a.wid ≤ 4096) (hs : a.stp ≤ 4096) (hl : a.len ≤ 1000000) (h1 : -9223372036854775808 ≤ n) (h2 : n ≤ 9223372036854775807) (hway : Way w bs a.wid a.stp a.f (.func (.func K) #[] cs)) (hbs : ∀ b, b ∈ bs → ∃ v, w.cell? ⟨b, 0, none⟩ = some v) :
    Calls Tryz.prog 79 #[.agg #[.int .i64 (a.len : Nat), .int .i64 (a.wid : Nat), .int .i64 (a.stp : Nat), .func (.func K) #[] cs], .int .i64 n] w fun e w' => ∃ v, e = .returned v ∧ AxN w w' bs (drA a n) v ∧ Below w.heap.size w w' := by
  by_cases hS : szN n ≤ a.wid
  · by_cases hn : 0 < n
    · exact drop_a a n K cs bs w hw hs hl h1 h2 hway hbs hS hn
    · exact drop_c a n K cs bs w hw hs hl h1 h2 hway hbs hS hn
  · by_cases hn : 0 < n
    · exact drop_b a n K cs bs w hw hs hl h1 h2 hway hbs (by omega) hn
    · exact drop_d a n K cs bs w hw hs hl h1 h2 hway hbs (by omega) hn

set_option maxHeartbeats 4000000 in
set_option maxRecDepth 20000 in
theorem alongAxes_drop (w0 : World) (xso xo so ao : Option Addr) (xsn xsc xn xc sn sc an ac g n gc : Nat) (xs at' : List Int) (axs : List Ax) (w : World) (hx : Rd w0 xo xn xs) (ha : Rd w0 ao an at') (hb : Below w0.heap.size w0 w) (hg : w0.heap.size ≤ g) (hax : Axs w g n axs) (hn : n ≤ 5000) (hle : xn ≤ n) (hl0 : ∀ k, k < n → (nax axs k).len ≤ 1000000) (hl : ∀ k, k < n → (nax (chL drA axs xs) k).len ≤ 1000000)
    (hp : mayF (lens (chL drA axs xs)) = 0 → ∀ p, p ∈ pls (chL drA axs xs) → p = -1 ∨ (0 ≤ p ∧ p < an)) :
    Calls Tryz.prog 80 #[.agg #[.slice xso xsn xsc, .slice xo xn xc], .agg #[.slice so sn sc, .slice ao an ac], .slice (some ⟨g, 0, none⟩) n gc, .func (.func 79) #[] #[]] w fun e w' => ∃ o1 n1 c1 o2 n2 c2, e = .returned (.tuple #[.agg #[.slice o1 n1 c1, .slice o2 n2 c2], .int .i64 (mayF (lens (chL drA axs xs)))]) ∧ Ft 3 w' w0.heap.size o1 n1 c1 (filS (lens (chL drA axs xs))) ∧ Ft 2 w' w0.heap.size o2 n2 c2 (gthS at' (chL drA axs xs)) ∧ Below w0.heap.size w0 w' := by
  have hgl := hax.lt
  have A0 := al_start xso xsn xsc xo xn xc so sn sc ao an ac hb hax
  have HXL : Hid (xs.length = xn) := hx.len
  have HAL : Hid (axs.length = n) := hax.len
  have HL : Hid (∀ k, k < n → (nax (chL drA axs xs) k).len ≤ 1000000) := hl
  have HL0 : Hid (∀ k, k < n → (nax axs k).len ≤ 1000000) := hl0
  have HP : Hid (mayF (lens (chL drA axs xs)) = 0 → ∀ p, p ∈ pls (chL drA axs xs) → p = -1 ∨ (0 ≤ p ∧ p < an)) := hp
  have t0 : decide (n < xn) = false := by simp; omega
  clear hax hl hp hl0
  obtain ⟨x0, x1, _, _⟩ := box2 A0.c0
  go_enter Tryz.func80, Tryz.ntmps80
  go_wp2
  clear x0 x1
  generalize (((w.alloc (.cells #[.slice xso xsn xsc, .slice xo xn xc] 25)).alloc (.cells #[.slice so sn sc, .slice ao an ac] 25)).alloc (.cells #[.slice none 0 0, .slice none 0 0] 25)) = W0 at *
  go_loopw [22] (fun i V => ∃ k : Nat, k ≤ xn ∧ i = .int .i64 (k : Nat) ∧ Al w0 w V g n (chL drA axs (xs.take k)) xso xsn xsc xo xn xc so sn sc ao an ac) (fun i _ => xn - (intOf i).toNat)
  case atStart => exact ⟨0, Nat.zero_le _, rfl, by rw [List.take_zero, chL_nil]; exact A0⟩
  case round =>
    obtain ⟨k, hk, rfl, A⟩ := hrel
    clear A0
    by_cases hlt : k < xn
    · obtain ⟨e1, e2⟩ := chL_step drA axs xs k (by rw [HAL.out]; omega) (by rw [HXL.out]; exact hlt)
      have hkn : k < n := by omega
      obtain ⟨b, off, rfl, hbb, hc⟩ := (hx.below A.bel (Nat.le_refl _)).cells (by omega)
      have c1 := hc k hlt
      have hnum := hx.num k hlt
      obtain ⟨K, cs, bs, y0, y1, y2, y3, hway, hbs, hwd, hst⟩ := A.ax.at2 hkn
      rw [e2] at y0 y1 y2 hway hwd hst
      have hcall := drop_any (nax axs k) (nth xs k) K cs bs wr hwd hst (HL0.out k hkn) hnum.1 hnum.2 hway (fun b m => (hbs b m).1)
      have HE : Hid (chL drA axs (xs.take (k + 1)) = (chL drA axs (xs.take k)).set k (drA (nax axs k) (nth xs k))) := e1
      have HB : Hid (∀ b, b ∈ bs → (∃ v, wr.cell? ⟨b, 0, none⟩ = some v) ∧ b ≠ g) := hbs
      have HWD : Hid ((drA (nax axs k) (nth xs k)).wid ≤ 4096 ∧ (drA (nax axs k) (nth xs k)).stp ≤ 4096) := drA_bd hwd hst
      have bk : (k : Int) < (n : Int) := by omega
      clear hc e1 e2 hway hbs hwd hst hnum
      go_wp2_with (go_at_call 79; (with_reducible refine hcall.mono ?_); rintro e w3 ⟨v, rfl, ⟨K', cs', bs', rfl, way', out'⟩, b3⟩; have A3 := A.below b3; obtain ⟨s0, s1, s2, s3, z0, z1, z2, z3, f0, f1, f2, f3⟩ := A3.ax.slots hkn)
      go_roundw
      case rel =>
        refine ⟨k + 1, by omega, by go_num, ?_⟩
        rw [HE.out]
        refine A3.put hkn hgl hg (bs := bs') ⟨way', fun b m => ?_, HWD.out.1, HWD.out.2⟩
        refine ⟨(out' b m).1, ?_⟩
        rcases (out' b m).2 with h | h
        · exact (HB.out b h).2
        · have := A.ax.lt; omega
      case measure => simp [intOf]; omega
    · obtain rfl : xn = k := by omega
      rw [List.take_of_length_le (by rw [HXL.out]; exact Nat.le_refl _)] at A
      have hcall := gather_any so ao (some ⟨g, 0, none⟩) sn sc an ac n gc at' (chL drA axs xs) wr (ha.below A.bel (Nat.le_refl _)) A.ax.ax hn HL.out HP.out
      obtain ⟨x0, x1, _, _⟩ := box2 A.d0
      go_wp2_with (go_at_call 61; (with_reducible refine hcall.mono ?_); rintro e w3 ⟨o1, n1, c1, o2, n2, c2, rfl, f1, f2, b3⟩; have A3 := A.below b3; obtain ⟨z0, z1, z2, z3⟩ := box2 A3.r)
      (try simp only [Exit.inBlock, Exit.then])
      refine bodyPost_ret (v := .tuple #[.agg #[.slice o1 n1 c1, .slice o2 n2 c2], .int .i64 (mayF (lens (chL drA axs xs)))]) (by rw [results_cell_tmp rfl]; go_simp) rfl ?_
      have hs := A.sz
      have hbz := A.bel.size
      have hb0 := hb.size
      exact ⟨o1, n1, c1, o2, n2, c2, rfl, (ft_set (w := w) f1 (by omega) _ _).mono (by omega), (ft_set (w := w) f2 (by omega) _ _).mono (by omega), below_set2 _ _ _ _ A3.bel (by omega) (Nat.le_refl _)⟩

set_option maxHeartbeats 4000000 in
set_option maxRecDepth 20000 in
theorem cut_drop (xso xo so ao : Option Addr) (xsn xsc xn xc sn sc an ac : Nat) (xs sh at' : List Int) (w : World) (hx : Rd w xo xn xs) (hs : Rd w so sn sh) (ha : Rd w ao an at') (h0 : mayF sh = 0) (hsn : 0 < sn) (hle : xn ≤ sn) (hl : ∀ k, k < sn → (nax (chL drA (axsOf sh) xs) k).len ≤ 1000000)
    (hp : mayF (lens (chL drA (axsOf sh) xs)) = 0 → ∀ p, p ∈ pls (chL drA (axsOf sh) xs) → p = -1 ∨ (0 ≤ p ∧ p < an)) :
    Calls Tryz.prog 77 #[.agg #[.slice xso xsn xsc, .slice xo xn xc], .agg #[.slice so sn sc, .slice ao an ac], .func (.func 79) #[] #[]] w fun e w' => ∃ o1 n1 c1 o2 n2 c2, e = .returned (.tuple #[.agg #[.slice o1 n1 c1, .slice o2 n2 c2], .int .i64 (mayF (lens (chL drA (axsOf sh) xs)))]) ∧ Ft 3 w' w.heap.size o1 n1 c1 (filS (lens (chL drA (axsOf sh) xs))) ∧ Ft 2 w' w.heap.size o2 n2 c2 (gthS at' (chL drA (axsOf sh) xs)) ∧ Below w.heap.size w w' := by
  have D0 := du_start w xso xsn xsc xo xn xc so sn sc ao an ac
  have hsl := hs.len
  have hsn8 : sn ≤ 8 := by rw [← hsl]; exact (mayF_zero h0).2.1
  have D1 := D0.drew
  generalize hW1 : (((w.alloc (.cells #[.slice xso xsn xsc, .slice xo xn xc] 25)).alloc (.cells #[.slice so sn sc, .slice ao an ac] 25)).alloc (.cells #[.slice none 0 0, .slice none 0 0] 25)).drew = W1 at D1
  have cAx := axesOf_any so sn sc sh W1 (hs.below D1.bel (Nat.le_refl _)) (by omega) (fun k hk => nth_small h0 (by omega)) (fun k hk => drop_small h0 k)
  have hG : W1.heap.size = w.heap.size + 1 + 1 + 1 := by rw [← hW1]; simp
  have cAl := fun w4 (k4 : Below (w.heap.size + 1 + 1 + 1) W1 w4) (X4 : Axs w4 (w.heap.size + 1 + 1 + 1) sn (axsOf sh)) => alongAxes_drop W1 xso xo so ao xsn xsc xn xc sn sc an ac (w.heap.size + 1 + 1 + 1) sn sn xs at' (axsOf sh) w4 (hx.below D1.bel (Nat.le_refl _)) (ha.below D1.bel (Nat.le_refl _)) (by rw [hG]; exact k4) (by omega) X4 (by omega) hle (fun k hk => by
    rw [axsOf_nax (by omega)]
    have := nth_small h0 (k := k) (by omega)
    show (nth sh k).toNat ≤ 1000000
    omega) hl hp
  have tsn : decide (0 < sn) = true := by simpa using hsn
  have tsn2 : ¬ sn = 0 := by omega
  have tsn3 : ((sn : Int) == 0) = false := by simp; omega
  have hsz1 := D1.sz
  rw [hG] at cAx cAl
  subst hW1
  clear hl hp hsn hle h0 hsl
  obtain ⟨x0, x1, x2, x3, _⟩ := D0.all
  go_enter Tryz.func77, Tryz.ntmps77
  go_wp2
  clear x0 x1 x2 x3
  go_region_held3 (fun V => V.cell? ⟨w.heap.size, 0, none⟩ = some (.slice xso xsn xsc) ∧ V.cell? ⟨w.heap.size, 1, none⟩ = some (.slice xo xn xc) ∧ V.cell? ⟨w.heap.size + 1, 0, none⟩ = some (.slice so sn sc) ∧ V.cell? ⟨w.heap.size + 1, 1, none⟩ = some (.slice ao an ac) ∧ Du w V xso xsn xsc xo xn xc so sn sc ao an ac) (first | exact Du.all (by assumption) | exact Du.all (Du.drew (by assumption)) | exact Du.all (Du.set (by assumption) _ _))
    (first
      | (go_at_call 59; (with_reducible refine cAx.mono ?_); rintro e w4 ⟨rfl, X4, k4⟩; have D4 := D1.below k4 (Nat.le_of_eq hG))
      | (go_at_call 80; (with_reducible refine (cAl w4 k4 X4).mono ?_); rintro e w5 ⟨o1, n1, c1, o2, n2, c2, rfl, f1, f2, k5⟩; have D5 := D1.below k5 (Nat.le_of_eq hG); obtain ⟨u5, v5, hr5⟩ := D5.r; obtain ⟨z0, z1, z2, z3⟩ := box2 hr5))
  go_wp2
  (try simp only [Exit.inBlock, Exit.then])
  refine bodyPost_ret (v := .tuple #[.agg #[.slice o1 n1 c1, .slice o2 n2 c2], .int .i64 (mayF (lens (chL drA (axsOf sh) xs)))]) (by rw [results_cell_tmp rfl]; go_simp) rfl ?_
  exact ⟨o1, n1, c1, o2, n2, c2, rfl, (ft_set (w := w) f1 (by omega) _ _).mono (by omega), (ft_set (w := w) f2 (by omega) _ _).mono (by omega), below_set2 _ _ _ _ D5.bel (by omega) (Nat.le_refl _)⟩
end Go.Proofs.YtpfdiammgdnhmaaGreat



namespace Go.Proofs.YtpfdiammgdnhmaaGreat

open Go.RowKit

set_option linter.unusedVariables false

theorem rows_cut {at' : List Int} {Z R k d : Nat} (hl : at'.length = Z * R) (h : d + k ≤ Z) : rows k R (fun i j => nth at' ((i + d) * R + j)) = (at'.drop (d * R)).take (k * R) := by
  have hd : d * R + k * R ≤ Z * R := by rw [← Nat.add_mul]; exact Nat.mul_le_mul_right _ h
  have e := rows_self (n := k) (R := R) (l := (at'.drop (d * R)).take (k * R)) (by rw [List.length_take, List.length_drop, hl]; omega)
  rw [← e]
  refine rows_congr fun i hi j hj => ?_
  have hij : i * R + j < k * R := by
    have := Nat.mul_le_mul_right R (show i + 1 ≤ k by omega)
    rw [Nat.succ_mul] at this; omega
  rw [nth_take hij, nth_drop]
  congr 1
  rw [Nat.add_mul]; omega
/-- The axes of what is taken, of what is left. -/
def tkX (sh : List Int) (n : Int) : List Ax := chL taA (axsOf sh) [n]
def drX (sh : List Int) (n : Int) : List Ax := chL drA (axsOf sh) [n]
theorem tkX_cons (z : Int) (r : List Int) (n : Int) : tkX (z :: r) n = taA ⟨z.toNat, z.toNat, (pr r).toNat, fun i => (i : Int)⟩ n :: axsOf r := by simp [tkX, axsOf, chL]
theorem drX_cons (z : Int) (r : List Int) (n : Int) : drX (z :: r) n = drA ⟨z.toNat, z.toNat, (pr r).toNat, fun i => (i : Int)⟩ n :: axsOf r := by simp [drX, axsOf, chL]
theorem lens_tkX {z : Int} {r : List Int} (h : mayF (z :: r) = 0) (n : Int) : lens (tkX (z :: r) n) = (szN n : Int) :: r := by
  have hz := (mayF_zero h).1
  rw [tkX_cons]
  show ((szN n : Nat) : Int) :: lens (axsOf r) = _
  rw [lens_axsOf (fun k hk => hz (k + 1) (by simpa using hk))]
theorem lens_drX {z : Int} {r : List Int} (h : mayF (z :: r) = 0) (n : Int) : lens (drX (z :: r) n) = ((z.toNat - min (szN n) z.toNat : Nat) : Int) :: r := by
  have hz := (mayF_zero h).1
  rw [drX_cons]
  show ((z.toNat - min (szN n) z.toNat : Nat) : Int) :: lens (axsOf r) = _
  rw [lens_axsOf (fun k hk => hz (k + 1) (by simpa using hk))]
/-- Within the array: a part of its atoms. -/
theorem gth_tkX {z : Int} {r at' : List Int} (h : mayF (z :: r) = 0) (hl : (at'.length : Int) = pr (z :: r)) {n : Int} (hn : szN n ≤ z.toNat) :
    gth at' (tkX (z :: r) n) = if n < 0 then at'.drop ((z.toNat - szN n) * (pr r).toNat) else at'.take (szN n * (pr r).toNat) := by
  have hz := (mayF_zero h).1
  have h0 : 0 ≤ z := hz 0 (by simp)
  have hr : ∀ k, k < r.length → 0 ≤ nth r k := fun k hk => hz (k + 1) (by simpa using hk)
  have hp := pr_nonneg hr
  have e : at'.length = z.toNat * (pr r).toNat := by
    rw [pr_cons] at hl
    have : ((z.toNat * (pr r).toNat : Nat) : Int) = z * pr r := by rw [Int.natCast_mul, Int.toNat_of_nonneg h0, Int.toNat_of_nonneg hp]
    omega
  rw [tkX_cons, gth_first at' _ hr rfl]
  show rows (szN n) (pr r).toNat _ = _
  by_cases c : n < 0
  · rw [if_pos c]
    have := rows_cut (k := szN n) (d := z.toNat - szN n) e (by omega)
    rw [List.take_of_length_le (by rw [List.length_drop, e, ← Nat.sub_mul]; exact Nat.mul_le_mul_right _ (by omega))] at this
    rw [← this]
    refine rows_congr fun i hi j hj => ?_
    have ef : (taA ⟨z.toNat, z.toNat, (pr r).toNat, fun i => (i : Int)⟩ n).f i = ((i + (z.toNat - szN n) : Nat) : Int) := by
      unfold taA; dsimp only; rw [if_pos c]; omega
    rw [ef, if_neg (by show ¬ (_ ∨ ((z.toNat : Nat) : Int) ≤ _); omega), Int.toNat_natCast]
  · rw [if_neg c]
    have := rows_cut (k := szN n) (d := 0) e (by omega)
    rw [Nat.zero_mul, List.drop_zero] at this
    rw [← this]
    refine rows_congr fun i hi j hj => ?_
    have ef : (taA ⟨z.toNat, z.toNat, (pr r).toNat, fun i => (i : Int)⟩ n).f i = (i : Int) := by
      unfold taA; dsimp only; rw [if_neg c]
    rw [ef, if_neg (by show ¬ (_ ∨ ((z.toNat : Nat) : Int) ≤ _); omega)]
    simp
theorem gth_drX {z : Int} {r at' : List Int} (h : mayF (z :: r) = 0) (hl : (at'.length : Int) = pr (z :: r)) {n : Int} (hn : szN n ≤ z.toNat) :
    gth at' (drX (z :: r) n) = if 0 < n then at'.drop (szN n * (pr r).toNat) else at'.take ((z.toNat - szN n) * (pr r).toNat) := by
  have hz := (mayF_zero h).1
  have h0 : 0 ≤ z := hz 0 (by simp)
  have hr : ∀ k, k < r.length → 0 ≤ nth r k := fun k hk => hz (k + 1) (by simpa using hk)
  have hp := pr_nonneg hr
  have e : at'.length = z.toNat * (pr r).toNat := by
    rw [pr_cons] at hl
    have : ((z.toNat * (pr r).toNat : Nat) : Int) = z * pr r := by rw [Int.natCast_mul, Int.toNat_of_nonneg h0, Int.toNat_of_nonneg hp]
    omega
  have em : min (szN n) z.toNat = szN n := by omega
  rw [drX_cons, gth_first at' _ hr rfl]
  show rows (z.toNat - min (szN n) z.toNat) (pr r).toNat _ = _
  rw [em]
  by_cases c : 0 < n
  · rw [if_pos c]
    have := rows_cut (k := z.toNat - szN n) (d := szN n) e (by omega)
    rw [List.take_of_length_le (by rw [List.length_drop, e, ← Nat.sub_mul]; exact Nat.le_refl _)] at this
    rw [← this]
    refine rows_congr fun i hi j hj => ?_
    have ef : (drA ⟨z.toNat, z.toNat, (pr r).toNat, fun i => (i : Int)⟩ n).f i = ((i + szN n : Nat) : Int) := by
      unfold drA; dsimp only; rw [if_pos c, em]; omega
    rw [ef, if_neg (by show ¬ (_ ∨ ((z.toNat : Nat) : Int) ≤ _); omega), Int.toNat_natCast]
  · rw [if_neg c]
    have := rows_cut (k := z.toNat - szN n) (d := 0) e (by omega)
    rw [Nat.zero_mul, List.drop_zero] at this
    rw [← this]
    refine rows_congr fun i hi j hj => ?_
    have ef : (drA ⟨z.toNat, z.toNat, (pr r).toNat, fun i => (i : Int)⟩ n).f i = (i : Int) := by
      unfold drA; dsimp only; rw [if_neg c]
    rw [ef, if_neg (by show ¬ (_ ∨ ((z.toNat : Nat) : Int) ≤ _); omega)]
    simp
/-- Both parts, one behind the other. -/
theorem cuts_join {z : Int} {r at' : List Int} (h : mayF (z :: r) = 0) (hl : (at'.length : Int) = pr (z :: r)) {n : Int} (hn : szN n ≤ z.toNat) :
    (if n < 0 then gth at' (drX (z :: r) n) ++ gth at' (tkX (z :: r) n) else gth at' (tkX (z :: r) n) ++ gth at' (drX (z :: r) n)) = at' := by
  rw [gth_tkX h hl hn, gth_drX h hl hn]
  by_cases c : n < 0
  · rw [if_pos c, if_pos c, if_neg (by omega)]; exact List.take_append_drop _ _
  · rw [if_neg c, if_neg c]
    by_cases d : 0 < n
    · rw [if_pos d]; exact List.take_append_drop _ _
    · have e0 : szN n = 0 := by unfold szN; omega
      have e1 : at'.length = z.toNat * (pr r).toNat := by
        have hz := (mayF_zero h).1
        have h0 : 0 ≤ z := hz 0 (by simp)
        have hp := pr_nonneg (s := r) (fun k hk => hz (k + 1) (by simpa using hk))
        rw [pr_cons] at hl
        have : ((z.toNat * (pr r).toNat : Nat) : Int) = z * pr r := by rw [Int.natCast_mul, Int.toNat_of_nonneg h0, Int.toNat_of_nonneg hp]
        omega
      rw [if_neg d, e0, Nat.zero_mul, List.take_zero, List.nil_append, Nat.sub_zero, ← e1, List.take_length]
end Go.Proofs.YtpfdiammgdnhmaaGreat


namespace Go.Proofs.YtpfdiammgdnhmaaGreat

open Go.RowKit

set_option linter.unusedVariables false

set_option maxHeartbeats 2000000 in
theorem drop_call (xso xo so ao : Option Addr) (xsn xsc xn xc sn sc an ac : Nat) (S A : List Int) (E : Int) (w : World)
    (hc : ∀ V, Below w.heap.size w V → Calls Tryz.prog 77 #[.agg #[.slice xso xsn xsc, .slice xo xn xc], .agg #[.slice so sn sc, .slice ao an ac], .func (.func 79) #[] #[]] V fun e w' => Ans V V.heap.size S A E e w') :
    Calls Tryz.prog 47 #[.agg #[.slice xso xsn xsc, .slice xo xn xc], .agg #[.slice so sn sc, .slice ao an ac]] w fun e w' => Ans w w.heap.size S A E e w' := by
  have D0 := dw_start w xso xsn xsc xo xn xc so sn sc ao an ac
  have cI := hc _ D0.bel
  obtain ⟨x0, x1, x2, x3, _⟩ := D0.all
  go_enter Tryz.func47, Tryz.ntmps47
  go_wp2_with (go_at_call 77; (with_reducible refine cI.mono ?_); rintro e w5 ⟨o1, n1, c1, o2, n2, c2, rfl, f1, f2, k5⟩; have D5 := D0.below k5 (Nat.le_refl _); obtain ⟨u5, v5, hr5⟩ := D5.r; obtain ⟨z0, z1, z2, z3⟩ := box2 hr5)
  (try simp only [Exit.inBlock, Exit.then])
  refine bodyPost_ret (v := .tuple #[.agg #[.slice o1 n1 c1, .slice o2 n2 c2], .int .i64 E]) (by rw [results_cell_tmp rfl]; go_simp) rfl ?_
  exact ⟨o1, n1, c1, o2, n2, c2, rfl, (ft_set (w := w) f1 (by simp) _ _).mono (by simp; omega), (ft_set (w := w) f2 (by simp) _ _).mono (by simp; omega), below_set2 _ _ _ _ D5.bel (by omega) (Nat.le_refl _)⟩

set_option maxHeartbeats 2000000 in
theorem dyad_drop (xso xo so ao : Option Addr) (xsn xsc xn xc sn sc an ac : Nat) (sx ax sy ay S A : List Int) (E : Int) (w : World) (hsx : Rd w xso xsn sx) (hax : Rd w xo xn ax) (hsy : Rd w so sn sy) (hay : Rd w ao an ay) (mx : mayA sx ax = 0) (my : mayA sy ay = 0) (hxr : xsn ≤ 1) 
    (hc : ∀ V, Below w.heap.size w V → Calls Tryz.prog 47 #[.agg #[.slice xso xsn xsc, .slice xo xn xc], .agg #[.slice so sn sc, .slice ao an ac]] V fun e w' => Ans V V.heap.size S A E e w') :
    Calls Tryz.prog 17 #[.int .i64 29, .agg #[.slice xso xsn xsc, .slice xo xn xc], .agg #[.slice so sn sc, .slice ao an ac]] w fun e w' => Ans w w.heap.size S A E e w' := by
  have D0 := dw_start w xso xsn xsc xo xn xc so sn sc ao an ac
  have cM1 := mayA_any xso xo xsn xsc xn xc sx ax _ (hsx.below D0.bel (Nat.le_refl _)) (hax.below D0.bel (Nat.le_refl _))
  have cM2 := fun V (D : Dw w V xso xsn xsc xo xn xc so sn sc ao an ac) => mayA_any so ao sn sc an ac sy ay V (hsy.below D.bel (Nat.le_refl _)) (hay.below D.bel (Nat.le_refl _))
  rw [mx] at cM1
  rw [my] at cM2
  have cD := fun V => dyadOf_yes 29 5 V (by omega) rfl (by intro j hj; match j, hj with | 0, _ => exact (by decide : dOp 0 ≠ 29) | 1, _ => exact (by decide : dOp 1 ≠ 29) | 2, _ => exact (by decide : dOp 2 ≠ 29) | 3, _ => exact (by decide : dOp 3 ≠ 29) | 4, _ => exact (by decide : dOp 4 ≠ 29))
  rw [show dFnN 5 = 47 from rfl, show dNum 5 = true from rfl] at cD
  have t0 : decide (1 < xsn) = false := by simp; omega
  obtain ⟨x0, x1, x2, x3, _⟩ := D0.all
  clear mx my
  go_enter Tryz.func17, Tryz.ntmps17
  go_wp2_with (first
    | (go_at_call 23; (with_reducible refine cM1.mono ?_); rintro e w1 ⟨rfl, k1⟩; have D1 := D0.below k1 (Nat.le_refl _); obtain ⟨y0, y1, y2, y3, _⟩ := D1.all)
    | (go_at_call 23; (with_reducible refine (cM2 w1 D1).mono ?_); rintro e w2 ⟨rfl, k2⟩; have D2 := D1.below k2 (Nat.le_refl _))
    | (go_at_call 26; (with_reducible refine (cD w2).mono ?_); rintro e w3 ⟨rfl, k3⟩; have D3 := D2.below k3 (Nat.le_refl _); have D4 := D3.below (box_below w3 (.cells #[.int .i64 29, .bool true, .func (.func 47) #[] #[]] 58)) (Nat.le_refl _); obtain ⟨v0, v1, v2, v3, _⟩ := D4.all)
    | (go_at_call 47; (with_reducible refine (hc _ D4.bel).mono ?_); rintro e w5 ⟨o1, n1, c1, o2, n2, c2, rfl, f1, f2, k5⟩; have D5 := D4.below k5 (Nat.le_refl _); obtain ⟨u5, v5, hr5⟩ := D5.r; obtain ⟨z0, z1, z2, z3⟩ := box2 hr5))
  (try simp only [Exit.inBlock, Exit.then])
  refine bodyPost_ret (v := .tuple #[.agg #[.slice o1 n1 c1, .slice o2 n2 c2], .int .i64 E]) (by rw [results_cell_tmp rfl]; go_simp) rfl ?_
  have s3 := D3.sz
  exact ⟨o1, n1, c1, o2, n2, c2, rfl, (ft_set (w := w) f1 (by simp; omega) _ _).mono (by simp; omega), (ft_set (w := w) f2 (by simp; omega) _ _).mono (by simp; omega), below_set2 _ _ _ _ D5.bel (by omega) (Nat.le_refl _)⟩


set_option maxHeartbeats 1000000 in
theorem take_s (so ao xo : Option Addr) (sn sc an ac xc : Nat) (z : Int) (r at' : List Int) (n : Int) (w : World) (hs : Rd w so sn (z :: r)) (ha : Rd w ao an at') (hx : Rd w xo 1 [n]) (my : mayA (z :: r) at' = 0) :
    Calls Tryz.prog 17 #[.int .i64 28, .agg #[.slice none 0 0, .slice xo 1 xc], .agg #[.slice so sn sc, .slice ao an ac]] w fun e w' => Ans w w.heap.size (filS ((szN n : Int) :: r)) (gthS at' (tkX (z :: r) n)) (mayF ((szN n : Int) :: r)) e w' := by
  obtain ⟨m1, m2⟩ := mayA_zero my
  have hz := (mayF_zero m1).1
  have h0 : 0 ≤ z := hz 0 (by simp)
  have hr : ∀ k, k < r.length → 0 ≤ nth r k := fun k hk => hz (k + 1) (by simpa using hk)
  have hsl := hs.len
  have hlen := lens_tkX m1 n
  have hz4 := nth_small m1 (k := 0) (by simp)
  have hz5 : z ≤ 4096 := hz4.2
  have hle := szN_le n
  refine dyad_take none xo so ao 0 0 1 xc sn sc an ac [] [n] (z :: r) at' _ _ _ w (Rd.nil w) hx hs ha (by rfl) my (by omega) (fun V k => take_call none xo so ao 0 0 1 xc sn sc an ac _ _ _ V (fun V2 k2 => ?_))
  have kk := k.trans (k2.mono k.size)
  have hnax : ∀ k, k < sn → (nax (tkX (z :: r) n) k).len ≤ 1000000 := fun k hk => by
    have e := lens_nth (axs := tkX (z :: r) n) (k := k) (by rw [← lens_len, hlen]; simp at hsl ⊢; omega)
    rw [hlen] at e
    cases k with
    | zero =>
      have e' : (((szN n : Int)) : Int) = _ := e
      omega
    | succ k =>
      have := nth_small m1 (k := k + 1) (by rw [hsl]; exact hk)
      have e' : nth r k = _ := e
      have e2 : nth (z :: r) (k + 1) = nth r k := rfl
      omega
  have := cut_take none xo so ao 0 0 1 xc sn sc an ac [n] (z :: r) at' V2 (hx.below kk (Nat.le_refl _)) (hs.below kk (Nat.le_refl _)) (ha.below kk (Nat.le_refl _)) m1 (by rw [← hsl]; simp) (by rw [← hsl]; simp) hnax (fun _ => by
    show ∀ p, p ∈ pls (tkX (z :: r) n) → _
    rw [tkX_cons]
    refine pls_first_in hr rfl ?_
    rw [pr_cons, ha.len] at m2
    show ((z.toNat : Nat) : Int) * pr r ≤ _
    rw [Int.toNat_of_nonneg h0]; omega)
  rw [show chL taA (axsOf (z :: r)) [n] = tkX (z :: r) n from rfl, hlen] at this
  exact this

set_option maxHeartbeats 1000000 in
theorem drop_s (so ao xo : Option Addr) (sn sc an ac xc : Nat) (z : Int) (r at' : List Int) (n : Int) (w : World) (hs : Rd w so sn (z :: r)) (ha : Rd w ao an at') (hx : Rd w xo 1 [n]) (my : mayA (z :: r) at' = 0) :
    Calls Tryz.prog 17 #[.int .i64 29, .agg #[.slice none 0 0, .slice xo 1 xc], .agg #[.slice so sn sc, .slice ao an ac]] w fun e w' => Ans w w.heap.size (filS (((z.toNat - min (szN n) z.toNat : Nat) : Int) :: r)) (gthS at' (drX (z :: r) n)) (mayF (((z.toNat - min (szN n) z.toNat : Nat) : Int) :: r)) e w' := by
  obtain ⟨m1, m2⟩ := mayA_zero my
  have hz := (mayF_zero m1).1
  have h0 : 0 ≤ z := hz 0 (by simp)
  have hr : ∀ k, k < r.length → 0 ≤ nth r k := fun k hk => hz (k + 1) (by simpa using hk)
  have hsl := hs.len
  have hlen := lens_drX m1 n
  have hz4 := nth_small m1 (k := 0) (by simp)
  have hz5 : z ≤ 4096 := hz4.2
  have hle := szN_le n
  refine dyad_drop none xo so ao 0 0 1 xc sn sc an ac [] [n] (z :: r) at' _ _ _ w (Rd.nil w) hx hs ha (by rfl) my (by omega) (fun V k => drop_call none xo so ao 0 0 1 xc sn sc an ac _ _ _ V (fun V2 k2 => ?_))
  have kk := k.trans (k2.mono k.size)
  have hnax : ∀ k, k < sn → (nax (drX (z :: r) n) k).len ≤ 1000000 := fun k hk => by
    have e := lens_nth (axs := drX (z :: r) n) (k := k) (by rw [← lens_len, hlen]; simp at hsl ⊢; omega)
    rw [hlen] at e
    cases k with
    | zero =>
      have e' : ((((z.toNat - min (szN n) z.toNat : Nat) : Int)) : Int) = _ := e
      omega
    | succ k =>
      have := nth_small m1 (k := k + 1) (by rw [hsl]; exact hk)
      have e' : nth r k = _ := e
      have e2 : nth (z :: r) (k + 1) = nth r k := rfl
      omega
  have := cut_drop none xo so ao 0 0 1 xc sn sc an ac [n] (z :: r) at' V2 (hx.below kk (Nat.le_refl _)) (hs.below kk (Nat.le_refl _)) (ha.below kk (Nat.le_refl _)) m1 (by rw [← hsl]; simp) (by rw [← hsl]; simp) hnax (fun _ => by
    show ∀ p, p ∈ pls (drX (z :: r) n) → _
    rw [drX_cons]
    refine pls_first_in hr rfl ?_
    rw [pr_cons, ha.len] at m2
    show ((z.toNat : Nat) : Int) * pr r ≤ _
    rw [Int.toNat_of_nonneg h0]; omega)
  rw [show chL drA (axsOf (z :: r)) [n] = drX (z :: r) n from rfl, hlen] at this
  exact this
end Go.Proofs.YtpfdiammgdnhmaaGreat



namespace Go.Proofs.YtpfdiammgdnhmaaGreat

open Go.RowKit

set_option linter.unusedVariables false

theorem mayF_less {z k : Int} {r : List Int} (h : mayF (z :: r) = 0) (h0 : 0 ≤ k) (hk : k ≤ z) : mayF (k :: r) = 0 := by
  obtain ⟨h1, h2, h3⟩ := mayF_zero h
  have ht : mayF r = 0 := mayF_tail h
  obtain ⟨t1, t2, t3⟩ := mayF_zero ht
  refine mayF_ok (fun j hj => ?_) (by simpa using h2) ?_
  · cases j with
    | zero => exact h0
    | succ j => exact h1 (j + 1) (by simpa using hj)
  · rw [pz_cons] at h3 ⊢
    by_cases c : k = 0
    · rw [if_pos c, Int.one_mul]; exact t3
    · rw [if_neg c]
      rw [if_neg (by omega)] at h3
      have hp := pz_pos (l := r) r.length (Nat.le_refl _) t1
      rw [List.take_length] at hp
      have := Int.mul_le_mul_of_nonneg_right hk (show 0 ≤ pz r by omega)
      omega
theorem gth_len (at' : List Int) (axs : List Ax) : ((gth at' axs).length : Int) = pr (lens axs) := by
  unfold gth; rw [List.length_map]; exact pls_len axs
theorem tk_may {z : Int} {r at' : List Int} (m1 : mayF (z :: r) = 0) {n : Int} (h : mayF ((szN n : Int) :: r) = 0) : mayA ((szN n : Int) :: r) (gth at' (tkX (z :: r) n)) = 0 :=
  mayA_ok h (by rw [gth_len, lens_tkX m1])
theorem dr_may {z : Int} {r at' : List Int} (m1 : mayF (z :: r) = 0) (n : Int) : mayF (((z.toNat - min (szN n) z.toNat : Nat) : Int) :: r) = 0 ∧ mayA (((z.toNat - min (szN n) z.toNat : Nat) : Int) :: r) (gth at' (drX (z :: r) n)) = 0 := by
  have h0 : 0 ≤ z := (mayF_zero m1).1 0 (by simp)
  have h := mayF_less m1 (k := ((z.toNat - min (szN n) z.toNat : Nat) : Int)) (by omega) (by omega)
  exact ⟨h, mayA_ok h (by rw [gth_len, lens_drX m1])⟩
set_option maxHeartbeats 2000000 in
/-- both, of PRavel: two parts of one item's shape that make the array. -/
theorem both_rav (xso xo so ao yo bo : Option Addr) (xsn xsc xn xc sn sc an ac tn tc bn bc : Nat) (sx ax sy ay S A : List Int) (w : World) (hsx : Rd w xso xsn sx) (ssx : Sl xso xsn xsc) (hax : Rd w xo xn ax) (hsy : Rd w so sn sy) (ssy : Sl so sn sc) (hay : Rd w ao an ay) (ht : Rd w yo tn S) (hb : Rd w bo bn A) (mx : mayA sx ax = 0) (my : mayA sy ay = 0) (hn : 0 < sn) (hne : xsn = sn) (hit : sy.drop 1 = sx.drop 1) (hS : (nth sx 0 + nth sy 0) :: sx.drop 1 = S) (hA : ax ++ ay = A) (mS : mayF S = 0) :
    Calls Tryz.prog 15 #[.int .i64 24, .agg #[.slice xso xsn xsc, .slice xo xn xc], .agg #[.slice so sn sc, .slice ao an ac], .agg #[.slice yo tn tc, .slice bo bn bc]] w fun e w' => e = .returned (.bool true) ∧ Below w.heap.size w w' := by
  have k3 := three_below w (.cells #[.slice xso xsn xsc, .slice xo xn xc] 25) (.cells #[.slice so sn sc, .slice ao an ac] 25) (.cells #[.slice yo tn tc, .slice bo bn bc] 25)
  have b2 := allocNew ((w.alloc (.cells #[.slice xso xsn xsc, .slice xo xn xc] 25)).alloc (.cells #[.slice so sn sc, .slice ao an ac] 25)) (.cells #[.slice yo tn tc, .slice bo bn bc] 25)
  simp only [World.size_alloc] at b2
  have cR := dyad_ravel xso xo so ao xsn xsc xn xc sn sc an ac sx ax sy ay S A 0 _ (hsx.below k3 (Nat.le_refl _)) (hax.below k3 (Nat.le_refl _)) (hsy.below k3 (Nat.le_refl _)) (hay.below k3 (Nat.le_refl _)) mx my (fun V k => by
    have kk := k3.trans (k.mono k3.size)
    have := join_same xso xo so ao xsn xsc xn xc sn sc an ac sx ax sy ay V (hsx.below kk (Nat.le_refl _)) ssx (hax.below kk (Nat.le_refl _)) (hsy.below kk (Nat.le_refl _)) ssy (hay.below kk (Nat.le_refl _)) mx my hn hne hit
    rw [hS, mS, show filS S = S from if_pos mS, show jnA S (ax ++ ay) = A by unfold jnA; rw [if_pos mS]; exact hA] at this
    exact this)
  have cE := fun V o1 n1 c1 o2 n2 c2 (h1 : Rd V o1 n1 S) (h2 : Rd V o2 n2 A) (k : Below w.heap.size w V) => eq4_any o1 o2 yo bo n1 c1 n2 c2 tn tc bn bc S A S A V h1 h2 (ht.below k (Nat.le_refl _)) (hb.below k (Nat.le_refl _))
  rw [show eqA S A S A = true from eqA_refl S A] at cE
  clear hS hA mS mx my hit hne hn
  go_enter Tryz.func15, Tryz.ntmps15
  go_wp2_with (first
    | (go_at_call 17; (with_reducible refine cR.mono ?_); rintro e w5 ⟨o1, n1, c1, o2, n2, c2, rfl, f1, f2, k5⟩; have K5 : Below w.heap.size w w5 := k3.trans (k5.mono k3.size); have T5 := (k5.block (w.heap.size + 1 + 1) (by simp)).trans b2; have kb := box_below w5 (.cells #[.slice o1 n1 c1, .slice o2 n2 c2] 25); have K6 := K5.trans (kb.mono K5.size); have T6 := (kb.block _ (Array.getElem?_eq_some_iff.1 T5).1).trans T5; obtain ⟨y0, y1, _, _⟩ := box2 T6)
    | (go_at_call 12; (with_reducible refine (cE _ o1 n1 c1 o2 n2 c2 (f1.rd.below kb (Nat.le_refl _)) (f2.rd.below kb (Nat.le_refl _)) K6).mono ?_); rintro e w7 ⟨rfl, k7⟩))
  go_ret
  exact ⟨rfl, K6.trans (k7.mono K6.size)⟩
end Go.Proofs.YtpfdiammgdnhmaaGreat
