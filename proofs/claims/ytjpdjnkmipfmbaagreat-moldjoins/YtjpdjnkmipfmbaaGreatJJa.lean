
/- MoldJoins: the numbers; two arrays of one shape under one another. -/

import Derived.Test.YtjpdjnkmipfmbaaGreatMJ
import Derived.Test.YtjpdjnkmipfmbaaGreatRA
import Derived.Test.YtjpdjnkmipfmbaaGreatRB
import Derived.Test.YtjpdjnkmipfmbaaGreatE1
import Derived.Test.YtjpdjnkmipfmbaaGreatE2
import Derived.Test.YtjpdjnkmipfmbaaGreatMZ

namespace Go.Proofs.YtjpdjnkmipfmbaaGreat

open Go.RowKit

set_option linter.unusedVariables false


set_option maxHeartbeats 2000000 in
theorem drop_a (a : Ax) (n : Int) (K : Nat) (cs : Array Value) (bs : List Nat) (w : World) (hw : a.wid ≤ 4096) (hs : a.stp ≤ 4096) (hl : a.len ≤ 1000000) (h1 : -9223372036854775808 ≤ n) (h2 : n ≤ 9223372036854775807) (hway : Way w bs a.wid a.stp a.f (.func (.func K) #[] cs)) (hbs : ∀ b, b ∈ bs → ∃ v, w.cell? ⟨b, 0, none⟩ = some v) (hS : szN n ≤ a.wid) (hn : 0 < n) :
    Calls Tryz.prog 65 #[.agg #[.int .i64 (a.len : Nat), .int .i64 (a.wid : Nat), .int .i64 (a.stp : Nat), .func (.func K) #[] cs], .int .i64 n] w fun e w' => ∃ v, e = .returned v ∧ AxN w w' bs (drA a n) v ∧ Below w.heap.size w w' := by
  have HE : Hid (drA a n = ⟨a.wid - szN n, a.wid, a.stp, fun i => (i : Int) + ((szN n : Nat) : Int)⟩) := by
    show _ = _
    unfold drA
    rw [show min (szN n) a.wid = szN n by omega, if_pos hn]
  have hz := fun V => msize_any n V h1 h2
  have hle := szN_le n
  have t0 : decide (0 < n) = true := by simpa using hn
  obtain ⟨len, wid, stp, f⟩ := a
  dsimp only at *
  have hsh := fun V => shifted_eq ((szN n : Nat) : Int) V
  unfold shV at hsh
  generalize szN n = S at *
  obtain ⟨L, hL⟩ : ∃ L : Nat, wid - S = L := ⟨_, rfl⟩
  have hL' : (wid : Int) - (S : Int) = (L : Int) := by omega
  have w1 : IntKind.i64.wrap (L : Int) = (L : Int) := wrapIn _ (by omega)
  have hlt : ¬ (wid : Int) < (S : Int) := by omega
  have hlt2 : ¬ wid < S := by omega
  have HLL : Hid (wid - S = L) := hL
  clear hL
  go_enter Tryz.func65, Tryz.ntmps65
  go_wp2
  go_quiet (exact Calls.quiet_of_same (hz _))
  go_wp2_with (go_at_call 92; refine (hsh _).mono ?_; rintro e w' ⟨rfl, rfl⟩)
  (try simp only [Exit.inBlock, Exit.then])
  rw [HE.out, HLL.out]
  have bX : Below w.heap.size w (((w.alloc (.cells #[.int .i64 (len : Nat), .int .i64 (wid : Nat), .int .i64 (stp : Nat), .func (.func K) #[] cs] 89)).alloc (.cells #[.int .i64 0, .int .i64 0, .int .i64 0, .nilFunc] 89)).drewN nq) := below_drewN ((box_below w _).trans ((box_below _ _).mono (by simp))) nq
  refine bodyPost_ret (v := .agg #[.int .i64 (L : Nat), .int .i64 (wid : Nat), .int .i64 (stp : Nat), shV (w.heap.size + 1 + 1)]) (by simp [results, Tryz.results65]; go_simp; rfl) rfl ?_
  have bY := ((((((bX.setCell (p := ⟨w.heap.size, 0, none⟩) (Nat.le_refl _) (.int .i64 (L : Nat))).setCell (p := ⟨w.heap.size, 3, none⟩) (Nat.le_refl _) (shV (w.heap.size + 1 + 1))).setCell (p := ⟨w.heap.size + 1, 0, none⟩) (by simp) (.int .i64 (L : Nat))).setCell (p := ⟨w.heap.size + 1, 1, none⟩) (by simp) (.int .i64 (wid : Nat))).setCell (p := ⟨w.heap.size + 1, 2, none⟩) (by simp) (.int .i64 (stp : Nat))).setCell (p := ⟨w.heap.size + 1, 3, none⟩) (by simp) (shV (w.heap.size + 1 + 1)))
  have cY := fun X (h : X.heap.size = w.heap.size + 1 + 1) => (show (World.alloc X (.cells #[.int .i64 (S : Nat)] 3)).cell? ⟨w.heap.size + 1 + 1, 0, none⟩ = some (.int .i64 (S : Nat)) by rw [← h]; exact (cell_of_row _ _ 0 _ _ (0, 0) (allocNew X _)).trans rfl)
  refine ⟨_, rfl, ⟨_, _, [w.heap.size + 1 + 1], rfl, ?_, fun b m => ?_⟩, bY.trans ((box_below _ _).mono bY.size)⟩
  · refine way_sh (d := ((S : Nat) : Int)) wid stp hw hs ?_ (by omega) (by omega)
    exact cY _ (by simp)
  rw [List.mem_singleton] at m
  subst m
  refine ⟨⟨.int .i64 (S : Nat), ?_⟩, .inr (by omega)⟩
  exact cY _ (by simp)

set_option maxHeartbeats 2000000 in
theorem drop_b (a : Ax) (n : Int) (K : Nat) (cs : Array Value) (bs : List Nat) (w : World) (hw : a.wid ≤ 4096) (hs : a.stp ≤ 4096) (hl : a.len ≤ 1000000) (h1 : -9223372036854775808 ≤ n) (h2 : n ≤ 9223372036854775807) (hway : Way w bs a.wid a.stp a.f (.func (.func K) #[] cs)) (hbs : ∀ b, b ∈ bs → ∃ v, w.cell? ⟨b, 0, none⟩ = some v) (hS : a.wid < szN n) (hn : 0 < n) :
    Calls Tryz.prog 65 #[.agg #[.int .i64 (a.len : Nat), .int .i64 (a.wid : Nat), .int .i64 (a.stp : Nat), .func (.func K) #[] cs], .int .i64 n] w fun e w' => ∃ v, e = .returned v ∧ AxN w w' bs (drA a n) v ∧ Below w.heap.size w w' := by
  have HE : Hid (drA a n = ⟨a.wid - a.wid, a.wid, a.stp, fun i => (i : Int) + ((a.wid : Nat) : Int)⟩) := by
    show _ = _
    unfold drA
    rw [show min (szN n) a.wid = a.wid by omega, if_pos hn]
  have hz := fun V => msize_any n V h1 h2
  have hle := szN_le n
  have t0 : decide (0 < n) = true := by simpa using hn
  obtain ⟨len, wid, stp, f⟩ := a
  dsimp only at *
  have hsh := fun V => shifted_eq ((wid : Nat) : Int) V
  unfold shV at hsh
  generalize szN n = S at *
  obtain ⟨L, hL⟩ : ∃ L : Nat, wid - wid = L := ⟨_, rfl⟩
  have hL' : (wid : Int) - (wid : Int) = (L : Int) := by omega
  have w1 : IntKind.i64.wrap (L : Int) = (L : Int) := wrapIn _ (by omega)
  have hlt : (wid : Int) < (S : Int) := by omega
  have hlt2 : wid < S := by omega
  have HLL : Hid (wid - wid = L) := hL
  clear hL
  go_enter Tryz.func65, Tryz.ntmps65
  go_wp2
  go_quiet (exact Calls.quiet_of_same (hz _))
  go_wp2_with (go_at_call 92; refine (hsh _).mono ?_; rintro e w' ⟨rfl, rfl⟩)
  (try simp only [Exit.inBlock, Exit.then])
  rw [HE.out, HLL.out]
  have bX : Below w.heap.size w (((w.alloc (.cells #[.int .i64 (len : Nat), .int .i64 (wid : Nat), .int .i64 (stp : Nat), .func (.func K) #[] cs] 89)).alloc (.cells #[.int .i64 0, .int .i64 0, .int .i64 0, .nilFunc] 89)).drewN nq) := below_drewN ((box_below w _).trans ((box_below _ _).mono (by simp))) nq
  refine bodyPost_ret (v := .agg #[.int .i64 (L : Nat), .int .i64 (wid : Nat), .int .i64 (stp : Nat), shV (w.heap.size + 1 + 1)]) (by simp [results, Tryz.results65]; go_simp; rfl) rfl ?_
  have bY := ((((((bX.setCell (p := ⟨w.heap.size, 0, none⟩) (Nat.le_refl _) (.int .i64 (L : Nat))).setCell (p := ⟨w.heap.size, 3, none⟩) (Nat.le_refl _) (shV (w.heap.size + 1 + 1))).setCell (p := ⟨w.heap.size + 1, 0, none⟩) (by simp) (.int .i64 (L : Nat))).setCell (p := ⟨w.heap.size + 1, 1, none⟩) (by simp) (.int .i64 (wid : Nat))).setCell (p := ⟨w.heap.size + 1, 2, none⟩) (by simp) (.int .i64 (stp : Nat))).setCell (p := ⟨w.heap.size + 1, 3, none⟩) (by simp) (shV (w.heap.size + 1 + 1)))
  have cY := fun X (h : X.heap.size = w.heap.size + 1 + 1) => (show (World.alloc X (.cells #[.int .i64 (wid : Nat)] 3)).cell? ⟨w.heap.size + 1 + 1, 0, none⟩ = some (.int .i64 (wid : Nat)) by rw [← h]; exact (cell_of_row _ _ 0 _ _ (0, 0) (allocNew X _)).trans rfl)
  refine ⟨_, rfl, ⟨_, _, [w.heap.size + 1 + 1], rfl, ?_, fun b m => ?_⟩, bY.trans ((box_below _ _).mono bY.size)⟩
  · refine way_sh (d := ((wid : Nat) : Int)) wid stp hw hs ?_ (by omega) (by omega)
    exact cY _ (by simp)
  rw [List.mem_singleton] at m
  subst m
  refine ⟨⟨.int .i64 (wid : Nat), ?_⟩, .inr (by omega)⟩
  exact cY _ (by simp)

set_option maxHeartbeats 2000000 in
theorem drop_c (a : Ax) (n : Int) (K : Nat) (cs : Array Value) (bs : List Nat) (w : World) (hw : a.wid ≤ 4096) (hs : a.stp ≤ 4096) (hl : a.len ≤ 1000000) (h1 : -9223372036854775808 ≤ n) (h2 : n ≤ 9223372036854775807) (hway : Way w bs a.wid a.stp a.f (.func (.func K) #[] cs)) (hbs : ∀ b, b ∈ bs → ∃ v, w.cell? ⟨b, 0, none⟩ = some v) (hS : szN n ≤ a.wid) (hn : ¬ 0 < n) :
    Calls Tryz.prog 65 #[.agg #[.int .i64 (a.len : Nat), .int .i64 (a.wid : Nat), .int .i64 (a.stp : Nat), .func (.func K) #[] cs], .int .i64 n] w fun e w' => ∃ v, e = .returned v ∧ AxN w w' bs (drA a n) v ∧ Below w.heap.size w w' := by
  have HE : Hid (drA a n = ⟨a.wid - szN n, a.wid, a.stp, a.f⟩) := by
    show _ = _
    unfold drA
    rw [show min (szN n) a.wid = szN n by omega, if_neg hn]
  have hz := fun V => msize_any n V h1 h2
  have hle := szN_le n
  have t0 : decide (0 < n) = false := by simpa using hn
  obtain ⟨len, wid, stp, f⟩ := a
  dsimp only at *
  have hsh := fun V => shifted_eq ((szN n : Nat) : Int) V
  unfold shV at hsh
  generalize szN n = S at *
  obtain ⟨L, hL⟩ : ∃ L : Nat, wid - S = L := ⟨_, rfl⟩
  have hL' : (wid : Int) - (S : Int) = (L : Int) := by omega
  have w1 : IntKind.i64.wrap (L : Int) = (L : Int) := wrapIn _ (by omega)
  have hlt : ¬ (wid : Int) < (S : Int) := by omega
  have hlt2 : ¬ wid < S := by omega
  have HLL : Hid (wid - S = L) := hL
  clear hL
  go_enter Tryz.func65, Tryz.ntmps65
  go_wp2
  go_quiet (exact Calls.quiet_of_same (hz _))
  go_wp2_with (go_at_call 92; refine (hsh _).mono ?_; rintro e w' ⟨rfl, rfl⟩)
  (try simp only [Exit.inBlock, Exit.then])
  rw [HE.out, HLL.out]
  have bX : Below w.heap.size w (((w.alloc (.cells #[.int .i64 (len : Nat), .int .i64 (wid : Nat), .int .i64 (stp : Nat), .func (.func K) #[] cs] 89)).alloc (.cells #[.int .i64 0, .int .i64 0, .int .i64 0, .nilFunc] 89)).drewN nq) := below_drewN ((box_below w _).trans ((box_below _ _).mono (by simp))) nq
  refine bodyPost_ret (v := .agg #[.int .i64 (L : Nat), .int .i64 (wid : Nat), .int .i64 (stp : Nat), .func (.func K) #[] cs]) (by simp [results, Tryz.results65]; go_simp) rfl ?_
  have bY := (((((bX.setCell (p := ⟨w.heap.size, 0, none⟩) (Nat.le_refl _) (.int .i64 (L : Nat))).setCell (p := ⟨w.heap.size + 1, 0, none⟩) (by simp) (.int .i64 (L : Nat))).setCell (p := ⟨w.heap.size + 1, 1, none⟩) (by simp) (.int .i64 (wid : Nat))).setCell (p := ⟨w.heap.size + 1, 2, none⟩) (by simp) (.int .i64 (stp : Nat))).setCell (p := ⟨w.heap.size + 1, 3, none⟩) (by simp) (.func (.func K) #[] cs))
  exact ⟨_, rfl, axn_same (a := ⟨L, wid, stp, f⟩) hway hbs bY, bY⟩

set_option maxHeartbeats 2000000 in
theorem drop_d (a : Ax) (n : Int) (K : Nat) (cs : Array Value) (bs : List Nat) (w : World) (hw : a.wid ≤ 4096) (hs : a.stp ≤ 4096) (hl : a.len ≤ 1000000) (h1 : -9223372036854775808 ≤ n) (h2 : n ≤ 9223372036854775807) (hway : Way w bs a.wid a.stp a.f (.func (.func K) #[] cs)) (hbs : ∀ b, b ∈ bs → ∃ v, w.cell? ⟨b, 0, none⟩ = some v) (hS : a.wid < szN n) (hn : ¬ 0 < n) :
    Calls Tryz.prog 65 #[.agg #[.int .i64 (a.len : Nat), .int .i64 (a.wid : Nat), .int .i64 (a.stp : Nat), .func (.func K) #[] cs], .int .i64 n] w fun e w' => ∃ v, e = .returned v ∧ AxN w w' bs (drA a n) v ∧ Below w.heap.size w w' := by
  have HE : Hid (drA a n = ⟨a.wid - a.wid, a.wid, a.stp, a.f⟩) := by
    show _ = _
    unfold drA
    rw [show min (szN n) a.wid = a.wid by omega, if_neg hn]
  have hz := fun V => msize_any n V h1 h2
  have hle := szN_le n
  have t0 : decide (0 < n) = false := by simpa using hn
  obtain ⟨len, wid, stp, f⟩ := a
  dsimp only at *
  have hsh := fun V => shifted_eq ((wid : Nat) : Int) V
  unfold shV at hsh
  generalize szN n = S at *
  obtain ⟨L, hL⟩ : ∃ L : Nat, wid - wid = L := ⟨_, rfl⟩
  have hL' : (wid : Int) - (wid : Int) = (L : Int) := by omega
  have w1 : IntKind.i64.wrap (L : Int) = (L : Int) := wrapIn _ (by omega)
  have hlt : (wid : Int) < (S : Int) := by omega
  have hlt2 : wid < S := by omega
  have HLL : Hid (wid - wid = L) := hL
  clear hL
  go_enter Tryz.func65, Tryz.ntmps65
  go_wp2
  go_quiet (exact Calls.quiet_of_same (hz _))
  go_wp2_with (go_at_call 92; refine (hsh _).mono ?_; rintro e w' ⟨rfl, rfl⟩)
  (try simp only [Exit.inBlock, Exit.then])
  rw [HE.out, HLL.out]
  have bX : Below w.heap.size w (((w.alloc (.cells #[.int .i64 (len : Nat), .int .i64 (wid : Nat), .int .i64 (stp : Nat), .func (.func K) #[] cs] 89)).alloc (.cells #[.int .i64 0, .int .i64 0, .int .i64 0, .nilFunc] 89)).drewN nq) := below_drewN ((box_below w _).trans ((box_below _ _).mono (by simp))) nq
  refine bodyPost_ret (v := .agg #[.int .i64 (L : Nat), .int .i64 (wid : Nat), .int .i64 (stp : Nat), .func (.func K) #[] cs]) (by simp [results, Tryz.results65]; go_simp) rfl ?_
  have bY := (((((bX.setCell (p := ⟨w.heap.size, 0, none⟩) (Nat.le_refl _) (.int .i64 (L : Nat))).setCell (p := ⟨w.heap.size + 1, 0, none⟩) (by simp) (.int .i64 (L : Nat))).setCell (p := ⟨w.heap.size + 1, 1, none⟩) (by simp) (.int .i64 (wid : Nat))).setCell (p := ⟨w.heap.size + 1, 2, none⟩) (by simp) (.int .i64 (stp : Nat))).setCell (p := ⟨w.heap.size + 1, 3, none⟩) (by simp) (.func (.func K) #[] cs))
  exact ⟨_, rfl, axn_same (a := ⟨L, wid, stp, f⟩) hway hbs bY, bY⟩

theorem drop_any (a : Ax) (n : Int) (K : Nat) (cs : Array Value) (bs : List Nat) (w : World) (hw : a.wid ≤ 4096) (hs : a.stp ≤ 4096) (hl : a.len ≤ 1000000) (h1 : -9223372036854775808 ≤ n) (h2 : n ≤ 9223372036854775807) (hway : Way w bs a.wid a.stp a.f (.func (.func K) #[] cs)) (hbs : ∀ b, b ∈ bs → ∃ v, w.cell? ⟨b, 0, none⟩ = some v) :
    Calls Tryz.prog 65 #[.agg #[.int .i64 (a.len : Nat), .int .i64 (a.wid : Nat), .int .i64 (a.stp : Nat), .func (.func K) #[] cs], .int .i64 n] w fun e w' => ∃ v, e = .returned v ∧ AxN w w' bs (drA a n) v ∧ Below w.heap.size w w' := by
  by_cases hS : szN n ≤ a.wid
  · by_cases hn : 0 < n
    · exact drop_a a n K cs bs w hw hs hl h1 h2 hway hbs hS hn
    · exact drop_c a n K cs bs w hw hs hl h1 h2 hway hbs hS hn
  · by_cases hn : 0 < n
    · exact drop_b a n K cs bs w hw hs hl h1 h2 hway hbs (by omega) hn
    · exact drop_d a n K cs bs w hw hs hl h1 h2 hway hbs (by omega) hn

set_option maxHeartbeats 4000000 in
set_option maxRecDepth 20000 in
theorem alongAxes_drop (w0 : World) (xso xo so ao : Option Addr) (xsn xsc xn xc sn sc an ac g n gc : Nat) (xs at' : List Int) (axs : List Ax) (w : World) (hx : Rd w0 xo xn xs) (ha : Rd w0 ao an at') (hb : Below w0.heap.size w0 w) (hg : w0.heap.size ≤ g) (hax : Axs w g n axs) (hn : n ≤ 5000) (hle : xn ≤ n) (hl0 : ∀ k, k < n → (nax axs k).len ≤ 1000000) (hl : ∀ k, k < n → (nax (chL drA axs xs) k).len ≤ 1000000)
    (hp : mayF (lens (chL drA axs xs)) = 0 → ∀ p, p ∈ pls (chL drA axs xs) → p = -1 ∨ (0 ≤ p ∧ p < an)) :
    Calls Tryz.prog 66 #[.agg #[.slice xso xsn xsc, .slice xo xn xc], .agg #[.slice so sn sc, .slice ao an ac], .slice (some ⟨g, 0, none⟩) n gc, .func (.func 65) #[] #[]] w fun e w' => ∃ o1 n1 c1 o2 n2 c2, e = .returned (.tuple #[.agg #[.slice o1 n1 c1, .slice o2 n2 c2], .int .i64 (mayF (lens (chL drA axs xs)))]) ∧ Ft 3 w' w0.heap.size o1 n1 c1 (filS (lens (chL drA axs xs))) ∧ Ft 2 w' w0.heap.size o2 n2 c2 (gthS at' (chL drA axs xs)) ∧ Below w0.heap.size w0 w' := by
  have hgl := hax.lt
  have A0 := al_start xso xsn xsc xo xn xc so sn sc ao an ac hb hax
  have HXL : Hid (xs.length = xn) := hx.len
  have HAL : Hid (axs.length = n) := hax.len
  have HL : Hid (∀ k, k < n → (nax (chL drA axs xs) k).len ≤ 1000000) := hl
  have HL0 : Hid (∀ k, k < n → (nax axs k).len ≤ 1000000) := hl0
  have HP : Hid (mayF (lens (chL drA axs xs)) = 0 → ∀ p, p ∈ pls (chL drA axs xs) → p = -1 ∨ (0 ≤ p ∧ p < an)) := hp
  have t0 : decide (n < xn) = false := by simp; omega
  clear hax hl hp hl0
  obtain ⟨x0, x1, _, _⟩ := box2 A0.c0
  go_enter Tryz.func66, Tryz.ntmps66
  go_wp2
  clear x0 x1
  generalize (((w.alloc (.cells #[.slice xso xsn xsc, .slice xo xn xc] 25)).alloc (.cells #[.slice so sn sc, .slice ao an ac] 25)).alloc (.cells #[.slice none 0 0, .slice none 0 0] 25)) = W0 at *
  go_loopw [22] (fun i V => ∃ k : Nat, k ≤ xn ∧ i = .int .i64 (k : Nat) ∧ Al w0 w V g n (chL drA axs (xs.take k)) xso xsn xsc xo xn xc so sn sc ao an ac) (fun i _ => xn - (intOf i).toNat)
  case atStart => exact ⟨0, Nat.zero_le _, rfl, by rw [List.take_zero, chL_nil]; exact A0⟩
  case round =>
    obtain ⟨k, hk, rfl, A⟩ := hrel
    clear A0
    by_cases hlt : k < xn
    · obtain ⟨e1, e2⟩ := chL_step drA axs xs k (by rw [HAL.out]; omega) (by rw [HXL.out]; exact hlt)
      have hkn : k < n := by omega
      obtain ⟨b, off, rfl, hbb, hc⟩ := (hx.below A.bel (Nat.le_refl _)).cells (by omega)
      have c1 := hc k hlt
      have hnum := hx.num k hlt
      obtain ⟨K, cs, bs, y0, y1, y2, y3, hway, hbs, hwd, hst⟩ := A.ax.at2 hkn
      rw [e2] at y0 y1 y2 hway hwd hst
      have hcall := drop_any (nax axs k) (nth xs k) K cs bs wr hwd hst (HL0.out k hkn) hnum.1 hnum.2 hway (fun b m => (hbs b m).1)
      have HE : Hid (chL drA axs (xs.take (k + 1)) = (chL drA axs (xs.take k)).set k (drA (nax axs k) (nth xs k))) := e1
      have HB : Hid (∀ b, b ∈ bs → (∃ v, wr.cell? ⟨b, 0, none⟩ = some v) ∧ b ≠ g) := hbs
      have HWD : Hid ((drA (nax axs k) (nth xs k)).wid ≤ 4096 ∧ (drA (nax axs k) (nth xs k)).stp ≤ 4096) := drA_bd hwd hst
      have bk : (k : Int) < (n : Int) := by omega
      clear hc e1 e2 hway hbs hwd hst hnum
      go_wp2_with (go_at_call 65; (with_reducible refine hcall.mono ?_); rintro e w3 ⟨v, rfl, ⟨K', cs', bs', rfl, way', out'⟩, b3⟩; have A3 := A.below b3; obtain ⟨s0, s1, s2, s3, z0, z1, z2, z3, f0, f1, f2, f3⟩ := A3.ax.slots hkn)
      go_roundw
      case rel =>
        refine ⟨k + 1, by omega, by go_num, ?_⟩
        rw [HE.out]
        refine A3.put hkn hgl hg (bs := bs') ⟨way', fun b m => ?_, HWD.out.1, HWD.out.2⟩
        refine ⟨(out' b m).1, ?_⟩
        rcases (out' b m).2 with h | h
        · exact (HB.out b h).2
        · have := A.ax.lt; omega
      case measure => simp [intOf]; omega
    · obtain rfl : xn = k := by omega
      rw [List.take_of_length_le (by rw [HXL.out]; exact Nat.le_refl _)] at A
      have hcall := gather_any so ao (some ⟨g, 0, none⟩) sn sc an ac n gc at' (chL drA axs xs) wr (ha.below A.bel (Nat.le_refl _)) A.ax.ax hn HL.out HP.out
      obtain ⟨x0, x1, _, _⟩ := box2 A.d0
      go_wp2_with (go_at_call 69; (with_reducible refine hcall.mono ?_); rintro e w3 ⟨o1, n1, c1, o2, n2, c2, rfl, f1, f2, b3⟩; have A3 := A.below b3; obtain ⟨z0, z1, z2, z3⟩ := box2 A3.r)
      (try simp only [Exit.inBlock, Exit.then])
      refine bodyPost_ret (v := .tuple #[.agg #[.slice o1 n1 c1, .slice o2 n2 c2], .int .i64 (mayF (lens (chL drA axs xs)))]) (by rw [results_cell_tmp rfl]; go_simp) rfl ?_
      have hs := A.sz
      have hbz := A.bel.size
      have hb0 := hb.size
      exact ⟨o1, n1, c1, o2, n2, c2, rfl, (ft_set (w := w) f1 (by omega) _ _).mono (by omega), (ft_set (w := w) f2 (by omega) _ _).mono (by omega), below_set2 _ _ _ _ A3.bel (by omega) (Nat.le_refl _)⟩

set_option maxHeartbeats 4000000 in
set_option maxRecDepth 20000 in
theorem cut_drop (xso xo so ao : Option Addr) (xsn xsc xn xc sn sc an ac : Nat) (xs sh at' : List Int) (w : World) (hx : Rd w xo xn xs) (hs : Rd w so sn sh) (ha : Rd w ao an at') (h0 : mayF sh = 0) (hsn : 0 < sn) (hle : xn ≤ sn) (hl : ∀ k, k < sn → (nax (chL drA (axsOf sh) xs) k).len ≤ 1000000)
    (hp : mayF (lens (chL drA (axsOf sh) xs)) = 0 → ∀ p, p ∈ pls (chL drA (axsOf sh) xs) → p = -1 ∨ (0 ≤ p ∧ p < an)) :
    Calls Tryz.prog 63 #[.agg #[.slice xso xsn xsc, .slice xo xn xc], .agg #[.slice so sn sc, .slice ao an ac], .func (.func 65) #[] #[]] w fun e w' => ∃ o1 n1 c1 o2 n2 c2, e = .returned (.tuple #[.agg #[.slice o1 n1 c1, .slice o2 n2 c2], .int .i64 (mayF (lens (chL drA (axsOf sh) xs)))]) ∧ Ft 3 w' w.heap.size o1 n1 c1 (filS (lens (chL drA (axsOf sh) xs))) ∧ Ft 2 w' w.heap.size o2 n2 c2 (gthS at' (chL drA (axsOf sh) xs)) ∧ Below w.heap.size w w' := by
  have D0 := du_start w xso xsn xsc xo xn xc so sn sc ao an ac
  have hsl := hs.len
  have hsn8 : sn ≤ 8 := by rw [← hsl]; exact (mayF_zero h0).2.1
  have D1 := D0.drew
  generalize hW1 : (((w.alloc (.cells #[.slice xso xsn xsc, .slice xo xn xc] 25)).alloc (.cells #[.slice so sn sc, .slice ao an ac] 25)).alloc (.cells #[.slice none 0 0, .slice none 0 0] 25)).drew = W1 at D1
  have cAx := axesOf_any so sn sc sh W1 (hs.below D1.bel (Nat.le_refl _)) (by omega) (fun k hk => nth_small h0 (by omega)) (fun k hk => drop_small h0 k)
  have hG : W1.heap.size = w.heap.size + 1 + 1 + 1 := by rw [← hW1]; simp
  have cAl := fun w4 (k4 : Below (w.heap.size + 1 + 1 + 1) W1 w4) (X4 : Axs w4 (w.heap.size + 1 + 1 + 1) sn (axsOf sh)) => alongAxes_drop W1 xso xo so ao xsn xsc xn xc sn sc an ac (w.heap.size + 1 + 1 + 1) sn sn xs at' (axsOf sh) w4 (hx.below D1.bel (Nat.le_refl _)) (ha.below D1.bel (Nat.le_refl _)) (by rw [hG]; exact k4) (by omega) X4 (by omega) hle (fun k hk => by
    rw [axsOf_nax (by omega)]
    have := nth_small h0 (k := k) (by omega)
    show (nth sh k).toNat ≤ 1000000
    omega) hl hp
  have tsn : decide (0 < sn) = true := by simpa using hsn
  have tsn2 : ¬ sn = 0 := by omega
  have tsn3 : ((sn : Int) == 0) = false := by simp; omega
  have hsz1 := D1.sz
  rw [hG] at cAx cAl
  subst hW1
  clear hl hp hsn hle h0 hsl
  obtain ⟨x0, x1, x2, x3, _⟩ := D0.all
  go_enter Tryz.func63, Tryz.ntmps63
  go_wp2
  clear x0 x1 x2 x3
  go_region_held3 (fun V => V.cell? ⟨w.heap.size, 0, none⟩ = some (.slice xso xsn xsc) ∧ V.cell? ⟨w.heap.size, 1, none⟩ = some (.slice xo xn xc) ∧ V.cell? ⟨w.heap.size + 1, 0, none⟩ = some (.slice so sn sc) ∧ V.cell? ⟨w.heap.size + 1, 1, none⟩ = some (.slice ao an ac) ∧ Du w V xso xsn xsc xo xn xc so sn sc ao an ac) (first | exact Du.all (by assumption) | exact Du.all (Du.drew (by assumption)) | exact Du.all (Du.set (by assumption) _ _))
    (first
      | (go_at_call 67; (with_reducible refine cAx.mono ?_); rintro e w4 ⟨rfl, X4, k4⟩; have D4 := D1.below k4 (Nat.le_of_eq hG))
      | (go_at_call 66; (with_reducible refine (cAl w4 k4 X4).mono ?_); rintro e w5 ⟨o1, n1, c1, o2, n2, c2, rfl, f1, f2, k5⟩; have D5 := D1.below k5 (Nat.le_of_eq hG); obtain ⟨u5, v5, hr5⟩ := D5.r; obtain ⟨z0, z1, z2, z3⟩ := box2 hr5))
  go_wp2
  (try simp only [Exit.inBlock, Exit.then])
  refine bodyPost_ret (v := .tuple #[.agg #[.slice o1 n1 c1, .slice o2 n2 c2], .int .i64 (mayF (lens (chL drA (axsOf sh) xs)))]) (by rw [results_cell_tmp rfl]; go_simp) rfl ?_
  exact ⟨o1, n1, c1, o2, n2, c2, rfl, (ft_set (w := w) f1 (by omega) _ _).mono (by omega), (ft_set (w := w) f2 (by omega) _ _).mono (by omega), below_set2 _ _ _ _ D5.bel (by omega) (Nat.le_refl _)⟩
end Go.Proofs.YtjpdjnkmipfmbaaGreat



namespace Go.Proofs.YtjpdjnkmipfmbaaGreat

open Go.RowKit

set_option linter.unusedVariables false

theorem rows_cut {at' : List Int} {Z R k d : Nat} (hl : at'.length = Z * R) (h : d + k ≤ Z) : rows k R (fun i j => nth at' ((i + d) * R + j)) = (at'.drop (d * R)).take (k * R) := by
  have hd : d * R + k * R ≤ Z * R := by rw [← Nat.add_mul]; exact Nat.mul_le_mul_right _ h
  have e := rows_self (n := k) (R := R) (l := (at'.drop (d * R)).take (k * R)) (by rw [List.length_take, List.length_drop, hl]; omega)
  rw [← e]
  refine rows_congr fun i hi j hj => ?_
  have hij : i * R + j < k * R := by
    have := Nat.mul_le_mul_right R (show i + 1 ≤ k by omega)
    rw [Nat.succ_mul] at this; omega
  rw [nth_take hij, nth_drop]
  congr 1
  rw [Nat.add_mul]; omega
/-- The axes of what is taken, of what is left. -/
def tkX (sh : List Int) (n : Int) : List Ax := chL taA (axsOf sh) [n]
def drX (sh : List Int) (n : Int) : List Ax := chL drA (axsOf sh) [n]
theorem tkX_cons (z : Int) (r : List Int) (n : Int) : tkX (z :: r) n = taA ⟨z.toNat, z.toNat, (pr r).toNat, fun i => (i : Int)⟩ n :: axsOf r := by simp [tkX, axsOf, chL]
theorem drX_cons (z : Int) (r : List Int) (n : Int) : drX (z :: r) n = drA ⟨z.toNat, z.toNat, (pr r).toNat, fun i => (i : Int)⟩ n :: axsOf r := by simp [drX, axsOf, chL]
theorem lens_tkX {z : Int} {r : List Int} (h : mayF (z :: r) = 0) (n : Int) : lens (tkX (z :: r) n) = (szN n : Int) :: r := by
  have hz := (mayF_zero h).1
  rw [tkX_cons]
  show ((szN n : Nat) : Int) :: lens (axsOf r) = _
  rw [lens_axsOf (fun k hk => hz (k + 1) (by simpa using hk))]
theorem lens_drX {z : Int} {r : List Int} (h : mayF (z :: r) = 0) (n : Int) : lens (drX (z :: r) n) = ((z.toNat - min (szN n) z.toNat : Nat) : Int) :: r := by
  have hz := (mayF_zero h).1
  rw [drX_cons]
  show ((z.toNat - min (szN n) z.toNat : Nat) : Int) :: lens (axsOf r) = _
  rw [lens_axsOf (fun k hk => hz (k + 1) (by simpa using hk))]
/-- Within the array: a part of its atoms. -/
theorem gth_tkX {z : Int} {r at' : List Int} (h : mayF (z :: r) = 0) (hl : (at'.length : Int) = pr (z :: r)) {n : Int} (hn : szN n ≤ z.toNat) :
    gth at' (tkX (z :: r) n) = if n < 0 then at'.drop ((z.toNat - szN n) * (pr r).toNat) else at'.take (szN n * (pr r).toNat) := by
  have hz := (mayF_zero h).1
  have h0 : 0 ≤ z := hz 0 (by simp)
  have hr : ∀ k, k < r.length → 0 ≤ nth r k := fun k hk => hz (k + 1) (by simpa using hk)
  have hp := pr_nonneg hr
  have e : at'.length = z.toNat * (pr r).toNat := by
    rw [pr_cons] at hl
    have : ((z.toNat * (pr r).toNat : Nat) : Int) = z * pr r := by rw [Int.natCast_mul, Int.toNat_of_nonneg h0, Int.toNat_of_nonneg hp]
    omega
  rw [tkX_cons, gth_first at' _ hr rfl]
  show rows (szN n) (pr r).toNat _ = _
  by_cases c : n < 0
  · rw [if_pos c]
    have := rows_cut (k := szN n) (d := z.toNat - szN n) e (by omega)
    rw [List.take_of_length_le (by rw [List.length_drop, e, ← Nat.sub_mul]; exact Nat.mul_le_mul_right _ (by omega))] at this
    rw [← this]
    refine rows_congr fun i hi j hj => ?_
    have ef : (taA ⟨z.toNat, z.toNat, (pr r).toNat, fun i => (i : Int)⟩ n).f i = ((i + (z.toNat - szN n) : Nat) : Int) := by
      unfold taA; dsimp only; rw [if_pos c]; omega
    rw [ef, if_neg (by show ¬ (_ ∨ ((z.toNat : Nat) : Int) ≤ _); omega), Int.toNat_natCast]
  · rw [if_neg c]
    have := rows_cut (k := szN n) (d := 0) e (by omega)
    rw [Nat.zero_mul, List.drop_zero] at this
    rw [← this]
    refine rows_congr fun i hi j hj => ?_
    have ef : (taA ⟨z.toNat, z.toNat, (pr r).toNat, fun i => (i : Int)⟩ n).f i = (i : Int) := by
      unfold taA; dsimp only; rw [if_neg c]
    rw [ef, if_neg (by show ¬ (_ ∨ ((z.toNat : Nat) : Int) ≤ _); omega)]
    simp
theorem gth_drX {z : Int} {r at' : List Int} (h : mayF (z :: r) = 0) (hl : (at'.length : Int) = pr (z :: r)) {n : Int} (hn : szN n ≤ z.toNat) :
    gth at' (drX (z :: r) n) = if 0 < n then at'.drop (szN n * (pr r).toNat) else at'.take ((z.toNat - szN n) * (pr r).toNat) := by
  have hz := (mayF_zero h).1
  have h0 : 0 ≤ z := hz 0 (by simp)
  have hr : ∀ k, k < r.length → 0 ≤ nth r k := fun k hk => hz (k + 1) (by simpa using hk)
  have hp := pr_nonneg hr
  have e : at'.length = z.toNat * (pr r).toNat := by
    rw [pr_cons] at hl
    have : ((z.toNat * (pr r).toNat : Nat) : Int) = z * pr r := by rw [Int.natCast_mul, Int.toNat_of_nonneg h0, Int.toNat_of_nonneg hp]
    omega
  have em : min (szN n) z.toNat = szN n := by omega
  rw [drX_cons, gth_first at' _ hr rfl]
  show rows (z.toNat - min (szN n) z.toNat) (pr r).toNat _ = _
  rw [em]
  by_cases c : 0 < n
  · rw [if_pos c]
    have := rows_cut (k := z.toNat - szN n) (d := szN n) e (by omega)
    rw [List.take_of_length_le (by rw [List.length_drop, e, ← Nat.sub_mul]; exact Nat.le_refl _)] at this
    rw [← this]
    refine rows_congr fun i hi j hj => ?_
    have ef : (drA ⟨z.toNat, z.toNat, (pr r).toNat, fun i => (i : Int)⟩ n).f i = ((i + szN n : Nat) : Int) := by
      unfold drA; dsimp only; rw [if_pos c, em]; omega
    rw [ef, if_neg (by show ¬ (_ ∨ ((z.toNat : Nat) : Int) ≤ _); omega), Int.toNat_natCast]
  · rw [if_neg c]
    have := rows_cut (k := z.toNat - szN n) (d := 0) e (by omega)
    rw [Nat.zero_mul, List.drop_zero] at this
    rw [← this]
    refine rows_congr fun i hi j hj => ?_
    have ef : (drA ⟨z.toNat, z.toNat, (pr r).toNat, fun i => (i : Int)⟩ n).f i = (i : Int) := by
      unfold drA; dsimp only; rw [if_neg c]
    rw [ef, if_neg (by show ¬ (_ ∨ ((z.toNat : Nat) : Int) ≤ _); omega)]
    simp
/-- Both parts, one behind the other. -/
theorem cuts_join {z : Int} {r at' : List Int} (h : mayF (z :: r) = 0) (hl : (at'.length : Int) = pr (z :: r)) {n : Int} (hn : szN n ≤ z.toNat) :
    (if n < 0 then gth at' (drX (z :: r) n) ++ gth at' (tkX (z :: r) n) else gth at' (tkX (z :: r) n) ++ gth at' (drX (z :: r) n)) = at' := by
  rw [gth_tkX h hl hn, gth_drX h hl hn]
  by_cases c : n < 0
  · rw [if_pos c, if_pos c, if_neg (by omega)]; exact List.take_append_drop _ _
  · rw [if_neg c, if_neg c]
    by_cases d : 0 < n
    · rw [if_pos d]; exact List.take_append_drop _ _
    · have e0 : szN n = 0 := by unfold szN; omega
      have e1 : at'.length = z.toNat * (pr r).toNat := by
        have hz := (mayF_zero h).1
        have h0 : 0 ≤ z := hz 0 (by simp)
        have hp := pr_nonneg (s := r) (fun k hk => hz (k + 1) (by simpa using hk))
        rw [pr_cons] at hl
        have : ((z.toNat * (pr r).toNat : Nat) : Int) = z * pr r := by rw [Int.natCast_mul, Int.toNat_of_nonneg h0, Int.toNat_of_nonneg hp]
        omega
      rw [if_neg d, e0, Nat.zero_mul, List.take_zero, List.nil_append, Nat.sub_zero, ← e1, List.take_length]
end Go.Proofs.YtjpdjnkmipfmbaaGreat


namespace Go.Proofs.YtjpdjnkmipfmbaaGreat

open Go.RowKit

set_option linter.unusedVariables false

set_option maxHeartbeats 2000000 in
theorem drop_call (xso xo so ao : Option Addr) (xsn xsc xn xc sn sc an ac : Nat) (S A : List Int) (E : Int) (w : World)
    (hc : ∀ V, Below w.heap.size w V → Calls Tryz.prog 63 #[.agg #[.slice xso xsn xsc, .slice xo xn xc], .agg #[.slice so sn sc, .slice ao an ac], .func (.func 65) #[] #[]] V fun e w' => Ans V V.heap.size S A E e w') :
    Calls Tryz.prog 30 #[.agg #[.slice xso xsn xsc, .slice xo xn xc], .agg #[.slice so sn sc, .slice ao an ac]] w fun e w' => Ans w w.heap.size S A E e w' := by
  have D0 := dw_start w xso xsn xsc xo xn xc so sn sc ao an ac
  have cI := hc _ D0.bel
  obtain ⟨x0, x1, x2, x3, _⟩ := D0.all
  go_enter Tryz.func30, Tryz.ntmps30
  go_wp2_with (go_at_call 63; (with_reducible refine cI.mono ?_); rintro e w5 ⟨o1, n1, c1, o2, n2, c2, rfl, f1, f2, k5⟩; have D5 := D0.below k5 (Nat.le_refl _); obtain ⟨u5, v5, hr5⟩ := D5.r; obtain ⟨z0, z1, z2, z3⟩ := box2 hr5)
  (try simp only [Exit.inBlock, Exit.then])
  refine bodyPost_ret (v := .tuple #[.agg #[.slice o1 n1 c1, .slice o2 n2 c2], .int .i64 E]) (by rw [results_cell_tmp rfl]; go_simp) rfl ?_
  exact ⟨o1, n1, c1, o2, n2, c2, rfl, (ft_set (w := w) f1 (by simp) _ _).mono (by simp; omega), (ft_set (w := w) f2 (by simp) _ _).mono (by simp; omega), below_set2 _ _ _ _ D5.bel (by omega) (Nat.le_refl _)⟩

set_option maxHeartbeats 2000000 in
theorem dyad_drop (xso xo so ao : Option Addr) (xsn xsc xn xc sn sc an ac : Nat) (sx ax sy ay S A : List Int) (E : Int) (w : World) (hsx : Rd w xso xsn sx) (hax : Rd w xo xn ax) (hsy : Rd w so sn sy) (hay : Rd w ao an ay) (mx : mayA sx ax = 0) (my : mayA sy ay = 0) (hxr : xsn ≤ 1) 
    (hc : ∀ V, Below w.heap.size w V → Calls Tryz.prog 30 #[.agg #[.slice xso xsn xsc, .slice xo xn xc], .agg #[.slice so sn sc, .slice ao an ac]] V fun e w' => Ans V V.heap.size S A E e w') :
    Calls Tryz.prog 6 #[.int .i64 29, .agg #[.slice xso xsn xsc, .slice xo xn xc], .agg #[.slice so sn sc, .slice ao an ac]] w fun e w' => Ans w w.heap.size S A E e w' := by
  have D0 := dw_start w xso xsn xsc xo xn xc so sn sc ao an ac
  have cM1 := mayA_any xso xo xsn xsc xn xc sx ax _ (hsx.below D0.bel (Nat.le_refl _)) (hax.below D0.bel (Nat.le_refl _))
  have cM2 := fun V (D : Dw w V xso xsn xsc xo xn xc so sn sc ao an ac) => mayA_any so ao sn sc an ac sy ay V (hsy.below D.bel (Nat.le_refl _)) (hay.below D.bel (Nat.le_refl _))
  rw [mx] at cM1
  rw [my] at cM2
  have cD := fun V => dyadOf_yes 29 5 V (by omega) rfl (by intro j hj; match j, hj with | 0, _ => exact (by decide : dOp 0 ≠ 29) | 1, _ => exact (by decide : dOp 1 ≠ 29) | 2, _ => exact (by decide : dOp 2 ≠ 29) | 3, _ => exact (by decide : dOp 3 ≠ 29) | 4, _ => exact (by decide : dOp 4 ≠ 29))
  rw [show dFnN 5 = 30 from rfl, show dNum 5 = true from rfl] at cD
  have t0 : decide (1 < xsn) = false := by simp; omega
  obtain ⟨x0, x1, x2, x3, _⟩ := D0.all
  clear mx my
  go_enter Tryz.func6, Tryz.ntmps6
  go_wp2_with (first
    | (go_at_call 18; (with_reducible refine cM1.mono ?_); rintro e w1 ⟨rfl, k1⟩; have D1 := D0.below k1 (Nat.le_refl _); obtain ⟨y0, y1, y2, y3, _⟩ := D1.all)
    | (go_at_call 18; (with_reducible refine (cM2 w1 D1).mono ?_); rintro e w2 ⟨rfl, k2⟩; have D2 := D1.below k2 (Nat.le_refl _))
    | (go_at_call 19; (with_reducible refine (cD w2).mono ?_); rintro e w3 ⟨rfl, k3⟩; have D3 := D2.below k3 (Nat.le_refl _); have D4 := D3.below (box_below w3 (.cells #[.int .i64 29, .bool true, .func (.func 30) #[] #[]] 46)) (Nat.le_refl _); obtain ⟨v0, v1, v2, v3, _⟩ := D4.all)
    | (go_at_call 30; (with_reducible refine (hc _ D4.bel).mono ?_); rintro e w5 ⟨o1, n1, c1, o2, n2, c2, rfl, f1, f2, k5⟩; have D5 := D4.below k5 (Nat.le_refl _); obtain ⟨u5, v5, hr5⟩ := D5.r; obtain ⟨z0, z1, z2, z3⟩ := box2 hr5))
  (try simp only [Exit.inBlock, Exit.then])
  refine bodyPost_ret (v := .tuple #[.agg #[.slice o1 n1 c1, .slice o2 n2 c2], .int .i64 E]) (by rw [results_cell_tmp rfl]; go_simp) rfl ?_
  have s3 := D3.sz
  exact ⟨o1, n1, c1, o2, n2, c2, rfl, (ft_set (w := w) f1 (by simp; omega) _ _).mono (by simp; omega), (ft_set (w := w) f2 (by simp; omega) _ _).mono (by simp; omega), below_set2 _ _ _ _ D5.bel (by omega) (Nat.le_refl _)⟩


set_option maxHeartbeats 1000000 in
theorem take_s (so ao xo : Option Addr) (sn sc an ac xc : Nat) (z : Int) (r at' : List Int) (n : Int) (w : World) (hs : Rd w so sn (z :: r)) (ha : Rd w ao an at') (hx : Rd w xo 1 [n]) (my : mayA (z :: r) at' = 0) :
    Calls Tryz.prog 6 #[.int .i64 28, .agg #[.slice none 0 0, .slice xo 1 xc], .agg #[.slice so sn sc, .slice ao an ac]] w fun e w' => Ans w w.heap.size (filS ((szN n : Int) :: r)) (gthS at' (tkX (z :: r) n)) (mayF ((szN n : Int) :: r)) e w' := by
  obtain ⟨m1, m2⟩ := mayA_zero my
  have hz := (mayF_zero m1).1
  have h0 : 0 ≤ z := hz 0 (by simp)
  have hr : ∀ k, k < r.length → 0 ≤ nth r k := fun k hk => hz (k + 1) (by simpa using hk)
  have hsl := hs.len
  have hlen := lens_tkX m1 n
  have hz4 := nth_small m1 (k := 0) (by simp)
  have hz5 : z ≤ 4096 := hz4.2
  have hle := szN_le n
  refine dyad_take none xo so ao 0 0 1 xc sn sc an ac [] [n] (z :: r) at' _ _ _ w (Rd.nil w) hx hs ha (by rfl) my (by omega) (fun V k => take_call none xo so ao 0 0 1 xc sn sc an ac _ _ _ V (fun V2 k2 => ?_))
  have kk := k.trans (k2.mono k.size)
  have hnax : ∀ k, k < sn → (nax (tkX (z :: r) n) k).len ≤ 1000000 := fun k hk => by
    have e := lens_nth (axs := tkX (z :: r) n) (k := k) (by rw [← lens_len, hlen]; simp at hsl ⊢; omega)
    rw [hlen] at e
    cases k with
    | zero =>
      have e' : (((szN n : Int)) : Int) = _ := e
      omega
    | succ k =>
      have := nth_small m1 (k := k + 1) (by rw [hsl]; exact hk)
      have e' : nth r k = _ := e
      have e2 : nth (z :: r) (k + 1) = nth r k := rfl
      omega
  have := cut_take none xo so ao 0 0 1 xc sn sc an ac [n] (z :: r) at' V2 (hx.below kk (Nat.le_refl _)) (hs.below kk (Nat.le_refl _)) (ha.below kk (Nat.le_refl _)) m1 (by rw [← hsl]; simp) (by rw [← hsl]; simp) hnax (fun _ => by
    show ∀ p, p ∈ pls (tkX (z :: r) n) → _
    rw [tkX_cons]
    refine pls_first_in hr rfl ?_
    rw [pr_cons, ha.len] at m2
    show ((z.toNat : Nat) : Int) * pr r ≤ _
    rw [Int.toNat_of_nonneg h0]; omega)
  rw [show chL taA (axsOf (z :: r)) [n] = tkX (z :: r) n from rfl, hlen] at this
  exact this

set_option maxHeartbeats 1000000 in
theorem drop_s (so ao xo : Option Addr) (sn sc an ac xc : Nat) (z : Int) (r at' : List Int) (n : Int) (w : World) (hs : Rd w so sn (z :: r)) (ha : Rd w ao an at') (hx : Rd w xo 1 [n]) (my : mayA (z :: r) at' = 0) :
    Calls Tryz.prog 6 #[.int .i64 29, .agg #[.slice none 0 0, .slice xo 1 xc], .agg #[.slice so sn sc, .slice ao an ac]] w fun e w' => Ans w w.heap.size (filS (((z.toNat - min (szN n) z.toNat : Nat) : Int) :: r)) (gthS at' (drX (z :: r) n)) (mayF (((z.toNat - min (szN n) z.toNat : Nat) : Int) :: r)) e w' := by
  obtain ⟨m1, m2⟩ := mayA_zero my
  have hz := (mayF_zero m1).1
  have h0 : 0 ≤ z := hz 0 (by simp)
  have hr : ∀ k, k < r.length → 0 ≤ nth r k := fun k hk => hz (k + 1) (by simpa using hk)
  have hsl := hs.len
  have hlen := lens_drX m1 n
  have hz4 := nth_small m1 (k := 0) (by simp)
  have hz5 : z ≤ 4096 := hz4.2
  have hle := szN_le n
  refine dyad_drop none xo so ao 0 0 1 xc sn sc an ac [] [n] (z :: r) at' _ _ _ w (Rd.nil w) hx hs ha (by rfl) my (by omega) (fun V k => drop_call none xo so ao 0 0 1 xc sn sc an ac _ _ _ V (fun V2 k2 => ?_))
  have kk := k.trans (k2.mono k.size)
  have hnax : ∀ k, k < sn → (nax (drX (z :: r) n) k).len ≤ 1000000 := fun k hk => by
    have e := lens_nth (axs := drX (z :: r) n) (k := k) (by rw [← lens_len, hlen]; simp at hsl ⊢; omega)
    rw [hlen] at e
    cases k with
    | zero =>
      have e' : ((((z.toNat - min (szN n) z.toNat : Nat) : Int)) : Int) = _ := e
      omega
    | succ k =>
      have := nth_small m1 (k := k + 1) (by rw [hsl]; exact hk)
      have e' : nth r k = _ := e
      have e2 : nth (z :: r) (k + 1) = nth r k := rfl
      omega
  have := cut_drop none xo so ao 0 0 1 xc sn sc an ac [n] (z :: r) at' V2 (hx.below kk (Nat.le_refl _)) (hs.below kk (Nat.le_refl _)) (ha.below kk (Nat.le_refl _)) m1 (by rw [← hsl]; simp) (by rw [← hsl]; simp) hnax (fun _ => by
    show ∀ p, p ∈ pls (drX (z :: r) n) → _
    rw [drX_cons]
    refine pls_first_in hr rfl ?_
    rw [pr_cons, ha.len] at m2
    show ((z.toNat : Nat) : Int) * pr r ≤ _
    rw [Int.toNat_of_nonneg h0]; omega)
  rw [show chL drA (axsOf (z :: r)) [n] = drX (z :: r) n from rfl, hlen] at this
  exact this
end Go.Proofs.YtjpdjnkmipfmbaaGreat



namespace Go.Proofs.YtjpdjnkmipfmbaaGreat

open Go.RowKit

set_option linter.unusedVariables false

theorem mayF_less {z k : Int} {r : List Int} (h : mayF (z :: r) = 0) (h0 : 0 ≤ k) (hk : k ≤ z) : mayF (k :: r) = 0 := by
  obtain ⟨h1, h2, h3⟩ := mayF_zero h
  have ht : mayF r = 0 := mayF_tail h
  obtain ⟨t1, t2, t3⟩ := mayF_zero ht
  refine mayF_ok (fun j hj => ?_) (by simpa using h2) ?_
  · cases j with
    | zero => exact h0
    | succ j => exact h1 (j + 1) (by simpa using hj)
  · rw [pz_cons] at h3 ⊢
    by_cases c : k = 0
    · rw [if_pos c, Int.one_mul]; exact t3
    · rw [if_neg c]
      rw [if_neg (by omega)] at h3
      have hp := pz_pos (l := r) r.length (Nat.le_refl _) t1
      rw [List.take_length] at hp
      have := Int.mul_le_mul_of_nonneg_right hk (show 0 ≤ pz r by omega)
      omega
theorem gth_len (at' : List Int) (axs : List Ax) : ((gth at' axs).length : Int) = pr (lens axs) := by
  unfold gth; rw [List.length_map]; exact pls_len axs
theorem tk_may {z : Int} {r at' : List Int} (m1 : mayF (z :: r) = 0) {n : Int} (h : mayF ((szN n : Int) :: r) = 0) : mayA ((szN n : Int) :: r) (gth at' (tkX (z :: r) n)) = 0 :=
  mayA_ok h (by rw [gth_len, lens_tkX m1])
theorem dr_may {z : Int} {r at' : List Int} (m1 : mayF (z :: r) = 0) (n : Int) : mayF (((z.toNat - min (szN n) z.toNat : Nat) : Int) :: r) = 0 ∧ mayA (((z.toNat - min (szN n) z.toNat : Nat) : Int) :: r) (gth at' (drX (z :: r) n)) = 0 := by
  have h0 : 0 ≤ z := (mayF_zero m1).1 0 (by simp)
  have h := mayF_less m1 (k := ((z.toNat - min (szN n) z.toNat : Nat) : Int)) (by omega) (by omega)
  exact ⟨h, mayA_ok h (by rw [gth_len, lens_drX m1])⟩
set_option maxHeartbeats 2000000 in
/-- both, of PRavel: two parts of one item's shape that make the array. -/
theorem both_rav (xso xo so ao yo bo : Option Addr) (xsn xsc xn xc sn sc an ac tn tc bn bc : Nat) (sx ax sy ay S A : List Int) (w : World) (hsx : Rd w xso xsn sx) (ssx : Sl xso xsn xsc) (hax : Rd w xo xn ax) (hsy : Rd w so sn sy) (ssy : Sl so sn sc) (hay : Rd w ao an ay) (ht : Rd w yo tn S) (hb : Rd w bo bn A) (mx : mayA sx ax = 0) (my : mayA sy ay = 0) (hn : 0 < sn) (hne : xsn = sn) (hit : sy.drop 1 = sx.drop 1) (hS : (nth sx 0 + nth sy 0) :: sx.drop 1 = S) (hA : ax ++ ay = A) (mS : mayF S = 0) :
    Calls Tryz.prog 10 #[.int .i64 24, .agg #[.slice xso xsn xsc, .slice xo xn xc], .agg #[.slice so sn sc, .slice ao an ac], .agg #[.slice yo tn tc, .slice bo bn bc]] w fun e w' => e = .returned (.bool true) ∧ Below w.heap.size w w' := by
  have k3 := three_below w (.cells #[.slice xso xsn xsc, .slice xo xn xc] 25) (.cells #[.slice so sn sc, .slice ao an ac] 25) (.cells #[.slice yo tn tc, .slice bo bn bc] 25)
  have b2 := allocNew ((w.alloc (.cells #[.slice xso xsn xsc, .slice xo xn xc] 25)).alloc (.cells #[.slice so sn sc, .slice ao an ac] 25)) (.cells #[.slice yo tn tc, .slice bo bn bc] 25)
  simp only [World.size_alloc] at b2
  have cR := dyad_ravel xso xo so ao xsn xsc xn xc sn sc an ac sx ax sy ay S A 0 _ (hsx.below k3 (Nat.le_refl _)) (hax.below k3 (Nat.le_refl _)) (hsy.below k3 (Nat.le_refl _)) (hay.below k3 (Nat.le_refl _)) mx my (fun V k => by
    have kk := k3.trans (k.mono k3.size)
    have := join_same xso xo so ao xsn xsc xn xc sn sc an ac sx ax sy ay V (hsx.below kk (Nat.le_refl _)) ssx (hax.below kk (Nat.le_refl _)) (hsy.below kk (Nat.le_refl _)) ssy (hay.below kk (Nat.le_refl _)) mx my hn hne hit
    rw [hS, mS, show filS S = S from if_pos mS, show jnA S (ax ++ ay) = A by unfold jnA; rw [if_pos mS]; exact hA] at this
    exact this)
  have cE := fun V o1 n1 c1 o2 n2 c2 (h1 : Rd V o1 n1 S) (h2 : Rd V o2 n2 A) (k : Below w.heap.size w V) => eq4_any o1 o2 yo bo n1 c1 n2 c2 tn tc bn bc S A S A V h1 h2 (ht.below k (Nat.le_refl _)) (hb.below k (Nat.le_refl _))
  rw [show eqA S A S A = true from eqA_refl S A] at cE
  clear hS hA mS mx my hit hne hn
  go_enter Tryz.func10, Tryz.ntmps10
  go_wp2_with (first
    | (go_at_call 6; (with_reducible refine cR.mono ?_); rintro e w5 ⟨o1, n1, c1, o2, n2, c2, rfl, f1, f2, k5⟩; have K5 : Below w.heap.size w w5 := k3.trans (k5.mono k3.size); have T5 := (k5.block (w.heap.size + 1 + 1) (by simp)).trans b2; have kb := box_below w5 (.cells #[.slice o1 n1 c1, .slice o2 n2 c2] 25); have K6 := K5.trans (kb.mono K5.size); have T6 := (kb.block _ (Array.getElem?_eq_some_iff.1 T5).1).trans T5; obtain ⟨y0, y1, _, _⟩ := box2 T6)
    | (go_at_call 14; (with_reducible refine (cE _ o1 n1 c1 o2 n2 c2 (f1.rd.below kb (Nat.le_refl _)) (f2.rd.below kb (Nat.le_refl _)) K6).mono ?_); rintro e w7 ⟨rfl, k7⟩))
  go_ret
  exact ⟨rfl, K6.trans (k7.mono K6.size)⟩
end Go.Proofs.YtjpdjnkmipfmbaaGreat


namespace Go.Proofs.YtjpdjnkmipfmbaaGreat

open Go.RowKit

set_option linter.unusedVariables false

/-- An item, where there is one. -/
theorem ioz_any (so ao : Option Addr) (sn sc an ac : Nat) (sh at' : List Int) (i : Int) (w : World) (hs : Rd w so sn sh) (ss : Sl so sn sc) (ha : Rd w ao an at') (sa : Sl ao an ac) (hi : itm sh at' ≠ 0) :
    Calls Tryz.prog 72 #[.agg #[.slice so sn sc, .slice ao an ac], .int .i64 i] w fun e w' => Ans w w.heap.size (itmS sh at' i) (itmA sh at' i) (itmE sh at' i) e w' := by
  have U0 := un_start w so sn sc ao an ac
  have s0 := U0.sz
  have cN := items_any so ao sn sc an ac sh at' _ (hs.below U0.bel (Nat.le_refl _)) (ha.below U0.bel (Nat.le_refl _))
  have cI := fun V (U : Un w V so sn sc ao an ac) => item_any so ao sn sc an ac sh at' i V (hs.below U.bel (Nat.le_refl _)) ss (ha.below U.bel (Nat.le_refl _)) sa
  have t0 : (itm sh at' == 0) = false := by simpa using hi
  obtain ⟨x0, x1, _⟩ := U0.all
  clear hi
  go_enter Tryz.func72, Tryz.ntmps72
  go_wp2_with (first
    | (go_at_call 51; (with_reducible refine cN.mono ?_); rintro e w1 ⟨rfl, k1⟩; have U1 := U0.below k1 s0; have s1 := U1.sz; obtain ⟨y0, y1, _⟩ := U1.all)
    | (go_at_call 96; (with_reducible refine (cI w1 U1).mono ?_); rintro e w5 ⟨o1, n1, c1, o2, n2, c2, rfl, f1, f2, ap, k5⟩; have U5 := U1.below k5 s1; have s5 := U5.sz; obtain ⟨u5, v5, hr5⟩ := U5.r; obtain ⟨z0, z1, z2, z3⟩ := box2 hr5))
  (try simp only [Exit.inBlock, Exit.then])
  refine bodyPost_ret (v := .tuple #[.agg #[.slice o1 n1 c1, .slice o2 n2 c2], .int .i64 (itmE sh at' i)]) (by rw [results_cell_tmp rfl]; go_simp) rfl ?_
  exact ⟨o1, n1, c1, o2, n2, c2, rfl, (ft_set (w := w) f1 (by omega) _ _).mono (by omega), (ft_set (w := w) f2 (by omega) _ _).mono (by omega), below_set2 _ _ _ _ U5.bel (by omega) (Nat.le_refl _)⟩

theorem first_any (so ao : Option Addr) (sn sc an ac : Nat) (sh at' : List Int) (w : World) (hs : Rd w so sn sh) (ss : Sl so sn sc) (ha : Rd w ao an at') (sa : Sl ao an ac) (hi : itm sh at' ≠ 0) :
    Calls Tryz.prog 40 #[.agg #[.slice so sn sc, .slice ao an ac]] w fun e w' => Ans w w.heap.size (itmS sh at' 0) (itmA sh at' 0) (itmE sh at' 0) e w' := by
  have U0 := un_start w so sn sc ao an ac
  have s0 := U0.sz
  have cI := ioz_any so ao sn sc an ac sh at' 0 _ (hs.below U0.bel (Nat.le_refl _)) ss (ha.below U0.bel (Nat.le_refl _)) sa hi
  obtain ⟨x0, x1, _⟩ := U0.all
  clear hi
  go_enter Tryz.func40, Tryz.ntmps40
  go_wp2_with (go_at_call 72; (with_reducible refine cI.mono ?_); rintro e w5 ⟨o1, n1, c1, o2, n2, c2, rfl, f1, f2, k5⟩; have U5 := U0.below k5 s0; have s5 := U5.sz; obtain ⟨u5, v5, hr5⟩ := U5.r; obtain ⟨z0, z1, z2, z3⟩ := box2 hr5)
  (try simp only [Exit.inBlock, Exit.then])
  refine bodyPost_ret (v := .tuple #[.agg #[.slice o1 n1 c1, .slice o2 n2 c2], .int .i64 (itmE sh at' 0)]) (by rw [results_cell_tmp rfl]; go_simp) rfl ?_
  exact ⟨o1, n1, c1, o2, n2, c2, rfl, (ft_set (w := w) f1 (by omega) _ _).mono (by omega), (ft_set (w := w) f2 (by omega) _ _).mono (by omega), below_set2 _ _ _ _ U5.bel (by omega) (Nat.le_refl _)⟩

theorem last_any (so ao : Option Addr) (sn sc an ac : Nat) (sh at' : List Int) (w : World) (hs : Rd w so sn sh) (ss : Sl so sn sc) (ha : Rd w ao an at') (sa : Sl ao an ac) (hi : itm sh at' ≠ 0) :
    Calls Tryz.prog 41 #[.agg #[.slice so sn sc, .slice ao an ac]] w fun e w' => Ans w w.heap.size (itmS sh at' (-1)) (itmA sh at' (-1)) (itmE sh at' (-1)) e w' := by
  have U0 := un_start w so sn sc ao an ac
  have s0 := U0.sz
  have cI := ioz_any so ao sn sc an ac sh at' (-1) _ (hs.below U0.bel (Nat.le_refl _)) ss (ha.below U0.bel (Nat.le_refl _)) sa hi
  obtain ⟨x0, x1, _⟩ := U0.all
  clear hi
  go_enter Tryz.func41, Tryz.ntmps41
  go_wp2_with (go_at_call 72; (with_reducible refine cI.mono ?_); rintro e w5 ⟨o1, n1, c1, o2, n2, c2, rfl, f1, f2, k5⟩; have U5 := U0.below k5 s0; have s5 := U5.sz; obtain ⟨u5, v5, hr5⟩ := U5.r; obtain ⟨z0, z1, z2, z3⟩ := box2 hr5)
  (try simp only [Exit.inBlock, Exit.then])
  refine bodyPost_ret (v := .tuple #[.agg #[.slice o1 n1 c1, .slice o2 n2 c2], .int .i64 (itmE sh at' (-1))]) (by rw [results_cell_tmp rfl]; go_simp) rfl ?_
  exact ⟨o1, n1, c1, o2, n2, c2, rfl, (ft_set (w := w) f1 (by omega) _ _).mono (by omega), (ft_set (w := w) f2 (by omega) _ _).mono (by omega), below_set2 _ _ _ _ U5.bel (by omega) (Nat.le_refl _)⟩

theorem behead_any (so ao : Option Addr) (sn sc an ac : Nat) (sh at' : List Int) (w : World) (hs : Rd w so sn sh) (ss : Sl so sn sc) (ha : Rd w ao an at') (sa : Sl ao an ac) (t : Int) (hi : itm sh at' = t) (h1 : 1 ≤ t) (h2 : t ≤ 4096) :
    Calls Tryz.prog 42 #[.agg #[.slice so sn sc, .slice ao an ac]] w fun e w' => Ans w w.heap.size (prtS sh at' 1 (t - 1)) (prtA sh at' 1 (t - 1)) (prtE sh at' 1 (t - 1)) e w' := by
  have U0 := un_start w so sn sc ao an ac
  have s0 := U0.sz
  have cN := items_any so ao sn sc an ac sh at' _ (hs.below U0.bel (Nat.le_refl _)) (ha.below U0.bel (Nat.le_refl _))
  rw [hi] at cN
  have cP : ∀ V m, m = t - 1 → Un w V so sn sc ao an ac → Calls Tryz.prog 73 #[.agg #[.slice so sn sc, .slice ao an ac], .int .i64 1, .int .i64 m] V fun e w' => Ans V V.heap.size (prtS sh at' 1 (t - 1)) (prtA sh at' 1 (t - 1)) (prtE sh at' 1 (t - 1)) e w' := by
    rintro V m rfl U
    exact part_any so ao sn sc an ac sh at' 1 (t - 1) V (hs.below U.bel (Nat.le_refl _)) ss (ha.below U.bel (Nat.le_refl _)) sa (by omega) (by omega) (by omega) (by omega)
  have w1 : IntKind.i64.wrap (t - 1) = t - 1 := wrapIn _ (by omega)
  obtain ⟨x0, x1, _⟩ := U0.all
  go_enter Tryz.func42, Tryz.ntmps42
  go_wp2_with (first
    | (go_at_call 51; (with_reducible refine cN.mono ?_); rintro e w1 ⟨rfl, k1⟩; have U1 := U0.below k1 s0; have s1 := U1.sz; obtain ⟨y0, y1, _⟩ := U1.all)
    | (go_at_call 73; (with_reducible refine (cP w1 _ (by omega) U1).mono ?_); rintro e w5 ⟨o1, n1, c1, o2, n2, c2, rfl, f1, f2, k5⟩; have U5 := U1.below k5 s1; have s5 := U5.sz; obtain ⟨u5, v5, hr5⟩ := U5.r; obtain ⟨z0, z1, z2, z3⟩ := box2 hr5))
  all_goals
    (try simp only [Exit.inBlock, Exit.then])
    refine bodyPost_ret (v := .tuple #[.agg #[.slice o1 n1 c1, .slice o2 n2 c2], .int .i64 (prtE sh at' 1 (t - 1))]) (by rw [results_cell_tmp rfl]; go_simp) rfl ?_
    exact ⟨o1, n1, c1, o2, n2, c2, rfl, (ft_set (w := w) f1 (by omega) _ _).mono (by omega), (ft_set (w := w) f2 (by omega) _ _).mono (by omega), below_set2 _ _ _ _ U5.bel (by omega) (Nat.le_refl _)⟩

set_option maxHeartbeats 2000000 in
theorem curtail_any (so ao : Option Addr) (sn sc an ac : Nat) (sh at' : List Int) (w : World) (hs : Rd w so sn sh) (ss : Sl so sn sc) (ha : Rd w ao an at') (sa : Sl ao an ac) (t : Int) (hi : itm sh at' = t) (h1 : 1 ≤ t) (h2 : t ≤ 4096) :
    Calls Tryz.prog 43 #[.agg #[.slice so sn sc, .slice ao an ac]] w fun e w' => Ans w w.heap.size (prtS sh at' 0 (t - 1)) (prtA sh at' 0 (t - 1)) (prtE sh at' 0 (t - 1)) e w' := by
  have U0 := un_start w so sn sc ao an ac
  have U1 := U0.drew
  have s1 := U1.sz
  have cN := items_any so ao sn sc an ac sh at' _ (hs.below U1.bel (Nat.le_refl _)) (ha.below U1.bel (Nat.le_refl _))
  rw [hi] at cN
  have cP : ∀ V m, m = t - 1 → Un w V so sn sc ao an ac → Calls Tryz.prog 73 #[.agg #[.slice so sn sc, .slice ao an ac], .int .i64 0, .int .i64 m] V fun e w' => Ans V V.heap.size (prtS sh at' 0 (t - 1)) (prtA sh at' 0 (t - 1)) (prtE sh at' 0 (t - 1)) e w' := by
    rintro V m rfl U
    exact part_any so ao sn sc an ac sh at' 0 (t - 1) V (hs.below U.bel (Nat.le_refl _)) ss (ha.below U.bel (Nat.le_refl _)) sa (by omega) (by omega) (by omega) (by omega)
  have w1 : IntKind.i64.wrap (t - 1) = t - 1 := wrapIn _ (by omega)
  obtain ⟨x0, x1, _⟩ := U0.all
  by_cases c : 1 < t
  all_goals
    go_enter Tryz.func43, Tryz.ntmps43
    go_wp2
    go_region_held3 (fun V => V.cell? ⟨w.heap.size, 0, none⟩ = some (.slice so sn sc) ∧ V.cell? ⟨w.heap.size, 1, none⟩ = some (.slice ao an ac) ∧ Un w V so sn sc ao an ac) (first | exact Un.all (by assumption) | exact Un.all (Un.drew (by assumption)) | exact Un.all (Un.set (by assumption) _ _))
      (first
        | (go_at_call 51; (with_reducible refine cN.mono ?_); rintro e w4 ⟨rfl, k4⟩; have U4 := U1.below k4 s1; have s4 := U4.sz)
        | (go_at_call 73; (with_reducible refine (cP w4 _ (by omega) U4).mono ?_); rintro e w5 ⟨o1, n1, c1, o2, n2, c2, rfl, f1, f2, k5⟩; have U5 := U4.below k5 s4; have s5 := U5.sz; obtain ⟨u5, v5, hr5⟩ := U5.r; obtain ⟨z0, z1, z2, z3⟩ := box2 hr5))
    go_wp2
    (try simp only [Exit.inBlock, Exit.then])
    refine bodyPost_ret (v := .tuple #[.agg #[.slice o1 n1 c1, .slice o2 n2 c2], .int .i64 (prtE sh at' 0 (t - 1))]) (by rw [results_cell_tmp rfl]; go_simp) rfl ?_
    exact ⟨o1, n1, c1, o2, n2, c2, rfl, (ft_set (w := w) f1 (by omega) _ _).mono (by omega), (ft_set (w := w) f2 (by omega) _ _).mono (by omega), below_set2 _ _ _ _ U5.bel (by omega) (Nat.le_refl _)⟩

theorem countItems_any (so ao : Option Addr) (sn sc an ac : Nat) (sh at' : List Int) (w : World) (hs : Rd w so sn sh) (ha : Rd w ao an at') (t : Int) (hi : itm sh at' = t) (h1 : 0 ≤ t) (h2 : t ≤ 4096) :
    Calls Tryz.prog 35 #[.agg #[.slice so sn sc, .slice ao an ac]] w fun e w' => Ans w w.heap.size [] [t] 0 e w' := by
  have U0 := un_start w so sn sc ao an ac
  have s0 := U0.sz
  have cN := items_any so ao sn sc an ac sh at' _ (hs.below U0.bel (Nat.le_refl _)) (ha.below U0.bel (Nat.le_refl _))
  rw [hi] at cN
  have cS := fun V => scalar_any t V (by omega) (by omega)
  obtain ⟨x0, x1, _⟩ := U0.all
  go_enter Tryz.func35, Tryz.ntmps35
  go_wp2_with (first
    | (go_at_call 51; (with_reducible refine cN.mono ?_); rintro e w1 ⟨rfl, k1⟩; have U1 := U0.below k1 s0; have s1 := U1.sz)
    | (go_at_call 70; (with_reducible refine (cS w1).mono ?_); rintro e w5 ⟨o2, c2, rfl, f2, k5⟩; have U5 := U1.below k5 s1; have s5 := U5.sz; obtain ⟨u5, v5, hr5⟩ := U5.r; obtain ⟨z0, z1, z2, z3⟩ := box2 hr5))
  (try simp only [Exit.inBlock, Exit.then])
  refine bodyPost_ret (v := .tuple #[.agg #[.slice none 0 0, .slice o2 1 c2], .int .i64 0]) (by rw [results_cell_tmp rfl]; go_simp) rfl ?_
  exact ⟨none, 0, 0, o2, 1, c2, rfl, Ft.nil _ _ _, (ft_set (w := w) f2 (by omega) _ _).mono (by omega), below_set2 _ _ _ _ U5.bel (by omega) (Nat.le_refl _)⟩

set_option maxHeartbeats 2000000 in
theorem monad_tally (so ao : Option Addr) (sn sc an ac : Nat) (sy ay S A : List Int) (E : Int) (w : World) (hsy : Rd w so sn sy) (hay : Rd w ao an ay) (my : mayA sy ay = 0)
    (hc : ∀ V, Below w.heap.size w V → Calls Tryz.prog 35 #[.agg #[.slice so sn sc, .slice ao an ac]] V fun e w' => Ans V V.heap.size S A E e w') :
    Calls Tryz.prog 12 #[.int .i64 22, .agg #[.slice so sn sc, .slice ao an ac]] w fun e w' => Ans w w.heap.size S A E e w' := by
  have U0 := un_start w so sn sc ao an ac
  have s0 := U0.sz
  have cM1 := mayA_any so ao sn sc an ac sy ay _ (hsy.below U0.bel (Nat.le_refl _)) (hay.below U0.bel (Nat.le_refl _))
  rw [my] at cM1
  have cD := fun V => monadOf_yes 22 0 V (by omega) rfl (by intro j hj; match j, hj with  | _, h => omega)
  rw [show mFnN 0 = 35 from rfl] at cD
  obtain ⟨x0, x1, _⟩ := U0.all
  clear my
  go_enter Tryz.func12, Tryz.ntmps12
  go_wp2_with (first
    | (go_at_call 18; (with_reducible refine cM1.mono ?_); rintro e w1 ⟨rfl, k1⟩; have U1 := U0.below k1 s0; have s1 := U1.sz)
    | (go_at_call 22; (with_reducible refine (cD w1).mono ?_); rintro e w3 ⟨rfl, k3⟩; have U3 := U1.below k3 s1; have s3 := U3.sz; have U4 := U3.below (box_below w3 (.cells #[.int .i64 22, .func (.func 35) #[] #[]] 54)) s3; obtain ⟨v0, v1, _⟩ := U4.all)
    | (go_at_call 35; (with_reducible refine (hc _ U4.bel).mono ?_); rintro e w5 ⟨o1, n1, c1, o2, n2, c2, rfl, f1, f2, k5⟩; have U5 := U4.below k5 U4.sz; obtain ⟨u5, v5, hr5⟩ := U5.r; obtain ⟨z0, z1, z2, z3⟩ := box2 hr5))
  (try simp only [Exit.inBlock, Exit.then])
  refine bodyPost_ret (v := .tuple #[.agg #[.slice o1 n1 c1, .slice o2 n2 c2], .int .i64 E]) (by rw [results_cell_tmp rfl]; go_simp) rfl ?_
  exact ⟨o1, n1, c1, o2, n2, c2, rfl, (ft_set (w := w) f1 (by simp; omega) _ _).mono (by simp; omega), (ft_set (w := w) f2 (by simp; omega) _ _).mono (by simp; omega), below_set2 _ _ _ _ U5.bel (by omega) (Nat.le_refl _)⟩

set_option maxHeartbeats 2000000 in
theorem monad_item (so ao : Option Addr) (sn sc an ac : Nat) (sy ay S A : List Int) (E : Int) (w : World) (hsy : Rd w so sn sy) (hay : Rd w ao an ay) (my : mayA sy ay = 0)
    (hc : ∀ V, Below w.heap.size w V → Calls Tryz.prog 39 #[.agg #[.slice so sn sc, .slice ao an ac]] V fun e w' => Ans V V.heap.size S A E e w') :
    Calls Tryz.prog 12 #[.int .i64 26, .agg #[.slice so sn sc, .slice ao an ac]] w fun e w' => Ans w w.heap.size S A E e w' := by
  have U0 := un_start w so sn sc ao an ac
  have s0 := U0.sz
  have cM1 := mayA_any so ao sn sc an ac sy ay _ (hsy.below U0.bel (Nat.le_refl _)) (hay.below U0.bel (Nat.le_refl _))
  rw [my] at cM1
  have cD := fun V => monadOf_yes 26 4 V (by omega) rfl (by intro j hj; match j, hj with | 0, _ => exact (by decide : mOp 0 ≠ 26) | 1, _ => exact (by decide : mOp 1 ≠ 26) | 2, _ => exact (by decide : mOp 2 ≠ 26) | 3, _ => exact (by decide : mOp 3 ≠ 26))
  rw [show mFnN 4 = 39 from rfl] at cD
  obtain ⟨x0, x1, _⟩ := U0.all
  clear my
  go_enter Tryz.func12, Tryz.ntmps12
  go_wp2_with (first
    | (go_at_call 18; (with_reducible refine cM1.mono ?_); rintro e w1 ⟨rfl, k1⟩; have U1 := U0.below k1 s0; have s1 := U1.sz)
    | (go_at_call 22; (with_reducible refine (cD w1).mono ?_); rintro e w3 ⟨rfl, k3⟩; have U3 := U1.below k3 s1; have s3 := U3.sz; have U4 := U3.below (box_below w3 (.cells #[.int .i64 26, .func (.func 39) #[] #[]] 54)) s3; obtain ⟨v0, v1, _⟩ := U4.all)
    | (go_at_call 39; (with_reducible refine (hc _ U4.bel).mono ?_); rintro e w5 ⟨o1, n1, c1, o2, n2, c2, rfl, f1, f2, k5⟩; have U5 := U4.below k5 U4.sz; obtain ⟨u5, v5, hr5⟩ := U5.r; obtain ⟨z0, z1, z2, z3⟩ := box2 hr5))
  (try simp only [Exit.inBlock, Exit.then])
  refine bodyPost_ret (v := .tuple #[.agg #[.slice o1 n1 c1, .slice o2 n2 c2], .int .i64 E]) (by rw [results_cell_tmp rfl]; go_simp) rfl ?_
  exact ⟨o1, n1, c1, o2, n2, c2, rfl, (ft_set (w := w) f1 (by simp; omega) _ _).mono (by simp; omega), (ft_set (w := w) f2 (by simp; omega) _ _).mono (by simp; omega), below_set2 _ _ _ _ U5.bel (by omega) (Nat.le_refl _)⟩

set_option maxHeartbeats 2000000 in
theorem monad_take (so ao : Option Addr) (sn sc an ac : Nat) (sy ay S A : List Int) (E : Int) (w : World) (hsy : Rd w so sn sy) (hay : Rd w ao an ay) (my : mayA sy ay = 0)
    (hc : ∀ V, Below w.heap.size w V → Calls Tryz.prog 40 #[.agg #[.slice so sn sc, .slice ao an ac]] V fun e w' => Ans V V.heap.size S A E e w') :
    Calls Tryz.prog 12 #[.int .i64 28, .agg #[.slice so sn sc, .slice ao an ac]] w fun e w' => Ans w w.heap.size S A E e w' := by
  have U0 := un_start w so sn sc ao an ac
  have s0 := U0.sz
  have cM1 := mayA_any so ao sn sc an ac sy ay _ (hsy.below U0.bel (Nat.le_refl _)) (hay.below U0.bel (Nat.le_refl _))
  rw [my] at cM1
  have cD := fun V => monadOf_yes 28 5 V (by omega) rfl (by intro j hj; match j, hj with | 0, _ => exact (by decide : mOp 0 ≠ 28) | 1, _ => exact (by decide : mOp 1 ≠ 28) | 2, _ => exact (by decide : mOp 2 ≠ 28) | 3, _ => exact (by decide : mOp 3 ≠ 28) | 4, _ => exact (by decide : mOp 4 ≠ 28))
  rw [show mFnN 5 = 40 from rfl] at cD
  obtain ⟨x0, x1, _⟩ := U0.all
  clear my
  go_enter Tryz.func12, Tryz.ntmps12
  go_wp2_with (first
    | (go_at_call 18; (with_reducible refine cM1.mono ?_); rintro e w1 ⟨rfl, k1⟩; have U1 := U0.below k1 s0; have s1 := U1.sz)
    | (go_at_call 22; (with_reducible refine (cD w1).mono ?_); rintro e w3 ⟨rfl, k3⟩; have U3 := U1.below k3 s1; have s3 := U3.sz; have U4 := U3.below (box_below w3 (.cells #[.int .i64 28, .func (.func 40) #[] #[]] 54)) s3; obtain ⟨v0, v1, _⟩ := U4.all)
    | (go_at_call 40; (with_reducible refine (hc _ U4.bel).mono ?_); rintro e w5 ⟨o1, n1, c1, o2, n2, c2, rfl, f1, f2, k5⟩; have U5 := U4.below k5 U4.sz; obtain ⟨u5, v5, hr5⟩ := U5.r; obtain ⟨z0, z1, z2, z3⟩ := box2 hr5))
  (try simp only [Exit.inBlock, Exit.then])
  refine bodyPost_ret (v := .tuple #[.agg #[.slice o1 n1 c1, .slice o2 n2 c2], .int .i64 E]) (by rw [results_cell_tmp rfl]; go_simp) rfl ?_
  exact ⟨o1, n1, c1, o2, n2, c2, rfl, (ft_set (w := w) f1 (by simp; omega) _ _).mono (by simp; omega), (ft_set (w := w) f2 (by simp; omega) _ _).mono (by simp; omega), below_set2 _ _ _ _ U5.bel (by omega) (Nat.le_refl _)⟩

set_option maxHeartbeats 2000000 in
theorem monad_tail (so ao : Option Addr) (sn sc an ac : Nat) (sy ay S A : List Int) (E : Int) (w : World) (hsy : Rd w so sn sy) (hay : Rd w ao an ay) (my : mayA sy ay = 0)
    (hc : ∀ V, Below w.heap.size w V → Calls Tryz.prog 41 #[.agg #[.slice so sn sc, .slice ao an ac]] V fun e w' => Ans V V.heap.size S A E e w') :
    Calls Tryz.prog 12 #[.int .i64 30, .agg #[.slice so sn sc, .slice ao an ac]] w fun e w' => Ans w w.heap.size S A E e w' := by
  have U0 := un_start w so sn sc ao an ac
  have s0 := U0.sz
  have cM1 := mayA_any so ao sn sc an ac sy ay _ (hsy.below U0.bel (Nat.le_refl _)) (hay.below U0.bel (Nat.le_refl _))
  rw [my] at cM1
  have cD := fun V => monadOf_yes 30 6 V (by omega) rfl (by intro j hj; match j, hj with | 0, _ => exact (by decide : mOp 0 ≠ 30) | 1, _ => exact (by decide : mOp 1 ≠ 30) | 2, _ => exact (by decide : mOp 2 ≠ 30) | 3, _ => exact (by decide : mOp 3 ≠ 30) | 4, _ => exact (by decide : mOp 4 ≠ 30) | 5, _ => exact (by decide : mOp 5 ≠ 30))
  rw [show mFnN 6 = 41 from rfl] at cD
  obtain ⟨x0, x1, _⟩ := U0.all
  clear my
  go_enter Tryz.func12, Tryz.ntmps12
  go_wp2_with (first
    | (go_at_call 18; (with_reducible refine cM1.mono ?_); rintro e w1 ⟨rfl, k1⟩; have U1 := U0.below k1 s0; have s1 := U1.sz)
    | (go_at_call 22; (with_reducible refine (cD w1).mono ?_); rintro e w3 ⟨rfl, k3⟩; have U3 := U1.below k3 s1; have s3 := U3.sz; have U4 := U3.below (box_below w3 (.cells #[.int .i64 30, .func (.func 41) #[] #[]] 54)) s3; obtain ⟨v0, v1, _⟩ := U4.all)
    | (go_at_call 41; (with_reducible refine (hc _ U4.bel).mono ?_); rintro e w5 ⟨o1, n1, c1, o2, n2, c2, rfl, f1, f2, k5⟩; have U5 := U4.below k5 U4.sz; obtain ⟨u5, v5, hr5⟩ := U5.r; obtain ⟨z0, z1, z2, z3⟩ := box2 hr5))
  (try simp only [Exit.inBlock, Exit.then])
  refine bodyPost_ret (v := .tuple #[.agg #[.slice o1 n1 c1, .slice o2 n2 c2], .int .i64 E]) (by rw [results_cell_tmp rfl]; go_simp) rfl ?_
  exact ⟨o1, n1, c1, o2, n2, c2, rfl, (ft_set (w := w) f1 (by simp; omega) _ _).mono (by simp; omega), (ft_set (w := w) f2 (by simp; omega) _ _).mono (by simp; omega), below_set2 _ _ _ _ U5.bel (by omega) (Nat.le_refl _)⟩

set_option maxHeartbeats 2000000 in
theorem monad_drop (so ao : Option Addr) (sn sc an ac : Nat) (sy ay S A : List Int) (E : Int) (w : World) (hsy : Rd w so sn sy) (hay : Rd w ao an ay) (my : mayA sy ay = 0)
    (hc : ∀ V, Below w.heap.size w V → Calls Tryz.prog 42 #[.agg #[.slice so sn sc, .slice ao an ac]] V fun e w' => Ans V V.heap.size S A E e w') :
    Calls Tryz.prog 12 #[.int .i64 29, .agg #[.slice so sn sc, .slice ao an ac]] w fun e w' => Ans w w.heap.size S A E e w' := by
  have U0 := un_start w so sn sc ao an ac
  have s0 := U0.sz
  have cM1 := mayA_any so ao sn sc an ac sy ay _ (hsy.below U0.bel (Nat.le_refl _)) (hay.below U0.bel (Nat.le_refl _))
  rw [my] at cM1
  have cD := fun V => monadOf_yes 29 7 V (by omega) rfl (by intro j hj; match j, hj with | 0, _ => exact (by decide : mOp 0 ≠ 29) | 1, _ => exact (by decide : mOp 1 ≠ 29) | 2, _ => exact (by decide : mOp 2 ≠ 29) | 3, _ => exact (by decide : mOp 3 ≠ 29) | 4, _ => exact (by decide : mOp 4 ≠ 29) | 5, _ => exact (by decide : mOp 5 ≠ 29) | 6, _ => exact (by decide : mOp 6 ≠ 29))
  rw [show mFnN 7 = 42 from rfl] at cD
  obtain ⟨x0, x1, _⟩ := U0.all
  clear my
  go_enter Tryz.func12, Tryz.ntmps12
  go_wp2_with (first
    | (go_at_call 18; (with_reducible refine cM1.mono ?_); rintro e w1 ⟨rfl, k1⟩; have U1 := U0.below k1 s0; have s1 := U1.sz)
    | (go_at_call 22; (with_reducible refine (cD w1).mono ?_); rintro e w3 ⟨rfl, k3⟩; have U3 := U1.below k3 s1; have s3 := U3.sz; have U4 := U3.below (box_below w3 (.cells #[.int .i64 29, .func (.func 42) #[] #[]] 54)) s3; obtain ⟨v0, v1, _⟩ := U4.all)
    | (go_at_call 42; (with_reducible refine (hc _ U4.bel).mono ?_); rintro e w5 ⟨o1, n1, c1, o2, n2, c2, rfl, f1, f2, k5⟩; have U5 := U4.below k5 U4.sz; obtain ⟨u5, v5, hr5⟩ := U5.r; obtain ⟨z0, z1, z2, z3⟩ := box2 hr5))
  (try simp only [Exit.inBlock, Exit.then])
  refine bodyPost_ret (v := .tuple #[.agg #[.slice o1 n1 c1, .slice o2 n2 c2], .int .i64 E]) (by rw [results_cell_tmp rfl]; go_simp) rfl ?_
  exact ⟨o1, n1, c1, o2, n2, c2, rfl, (ft_set (w := w) f1 (by simp; omega) _ _).mono (by simp; omega), (ft_set (w := w) f2 (by simp; omega) _ _).mono (by simp; omega), below_set2 _ _ _ _ U5.bel (by omega) (Nat.le_refl _)⟩

set_option maxHeartbeats 2000000 in
theorem monad_curt (so ao : Option Addr) (sn sc an ac : Nat) (sy ay S A : List Int) (E : Int) (w : World) (hsy : Rd w so sn sy) (hay : Rd w ao an ay) (my : mayA sy ay = 0)
    (hc : ∀ V, Below w.heap.size w V → Calls Tryz.prog 43 #[.agg #[.slice so sn sc, .slice ao an ac]] V fun e w' => Ans V V.heap.size S A E e w') :
    Calls Tryz.prog 12 #[.int .i64 31, .agg #[.slice so sn sc, .slice ao an ac]] w fun e w' => Ans w w.heap.size S A E e w' := by
  have U0 := un_start w so sn sc ao an ac
  have s0 := U0.sz
  have cM1 := mayA_any so ao sn sc an ac sy ay _ (hsy.below U0.bel (Nat.le_refl _)) (hay.below U0.bel (Nat.le_refl _))
  rw [my] at cM1
  have cD := fun V => monadOf_yes 31 8 V (by omega) rfl (by intro j hj; match j, hj with | 0, _ => exact (by decide : mOp 0 ≠ 31) | 1, _ => exact (by decide : mOp 1 ≠ 31) | 2, _ => exact (by decide : mOp 2 ≠ 31) | 3, _ => exact (by decide : mOp 3 ≠ 31) | 4, _ => exact (by decide : mOp 4 ≠ 31) | 5, _ => exact (by decide : mOp 5 ≠ 31) | 6, _ => exact (by decide : mOp 6 ≠ 31) | 7, _ => exact (by decide : mOp 7 ≠ 31))
  rw [show mFnN 8 = 43 from rfl] at cD
  obtain ⟨x0, x1, _⟩ := U0.all
  clear my
  go_enter Tryz.func12, Tryz.ntmps12
  go_wp2_with (first
    | (go_at_call 18; (with_reducible refine cM1.mono ?_); rintro e w1 ⟨rfl, k1⟩; have U1 := U0.below k1 s0; have s1 := U1.sz)
    | (go_at_call 22; (with_reducible refine (cD w1).mono ?_); rintro e w3 ⟨rfl, k3⟩; have U3 := U1.below k3 s1; have s3 := U3.sz; have U4 := U3.below (box_below w3 (.cells #[.int .i64 31, .func (.func 43) #[] #[]] 54)) s3; obtain ⟨v0, v1, _⟩ := U4.all)
    | (go_at_call 43; (with_reducible refine (hc _ U4.bel).mono ?_); rintro e w5 ⟨o1, n1, c1, o2, n2, c2, rfl, f1, f2, k5⟩; have U5 := U4.below k5 U4.sz; obtain ⟨u5, v5, hr5⟩ := U5.r; obtain ⟨z0, z1, z2, z3⟩ := box2 hr5))
  (try simp only [Exit.inBlock, Exit.then])
  refine bodyPost_ret (v := .tuple #[.agg #[.slice o1 n1 c1, .slice o2 n2 c2], .int .i64 E]) (by rw [results_cell_tmp rfl]; go_simp) rfl ?_
  exact ⟨o1, n1, c1, o2, n2, c2, rfl, (ft_set (w := w) f1 (by simp; omega) _ _).mono (by simp; omega), (ft_set (w := w) f2 (by simp; omega) _ _).mono (by simp; omega), below_set2 _ _ _ _ U5.bel (by omega) (Nat.le_refl _)⟩

end Go.Proofs.YtjpdjnkmipfmbaaGreat


namespace Go.Proofs.YtjpdjnkmipfmbaaGreat

open Go.RowKit

set_option linter.unusedVariables false

theorem nth_over {l : List Int} {k : Nat} (h : l.length ≤ k) : nth l k = 0 := by
  unfold nth; rw [List.getD_eq_getElem?_getD, List.getElem?_eq_none h]; rfl
theorem atoms_len {z : Int} {r at' : List Int} (h : mayF (z :: r) = 0) (hl : (at'.length : Int) = pr (z :: r)) : at'.length = z.toNat * (pr r).toNat := by
  have hz := (mayF_zero h).1
  have h0 : 0 ≤ z := hz 0 (by simp)
  have hr : ∀ k, k < r.length → 0 ≤ nth r k := fun k hk => hz (k + 1) (by simpa using hk)
  have hp := pr_nonneg hr
  rw [pr_cons] at hl
  have : ((z.toNat * (pr r).toNat : Nat) : Int) = z * pr r := by rw [Int.natCast_mul, Int.toNat_of_nonneg h0, Int.toNat_of_nonneg hp]
  omega
theorem tkX_len {z : Int} {r at' : List Int} (h : mayF (z :: r) = 0) (n : Int) : (gth at' (tkX (z :: r) n)).length = szN n * (pr r).toNat := by
  have hz := (mayF_zero h).1
  have hr : ∀ k, k < r.length → 0 ≤ nth r k := fun k hk => hz (k + 1) (by simpa using hk)
  rw [tkX_cons, gth_first at' _ hr rfl, rows_len]; rfl
/-- What stands at a place of what is taken. -/
theorem over_nth {z : Int} {r at' : List Int} (h : mayF (z :: r) = 0) (hl : (at'.length : Int) = pr (z :: r)) {n : Int} (hn : z.toNat ≤ szN n) {q : Nat} (hq : q < (gth at' (tkX (z :: r) n)).length) :
    nth (gth at' (tkX (z :: r) n)) q = if n < 0 then (if szN n * (pr r).toNat - at'.length ≤ q then nth at' (q - (szN n * (pr r).toNat - at'.length)) else 0) else nth at' q := by
  have hz := (mayF_zero h).1
  have hr : ∀ k, k < r.length → 0 ≤ nth r k := fun k hk => hz (k + 1) (by simpa using hk)
  have e := atoms_len h hl
  rw [tkX_len h] at hq
  obtain ⟨R, hR⟩ : ∃ R, (pr r).toNat = R := ⟨_, rfl⟩
  have R0 : 0 < R := by
    rcases Nat.eq_zero_or_pos R with c | c
    · rw [hR, c, Nat.mul_zero] at hq; omega
    · exact c
  have hi : q / R < szN n := by rw [hR] at hq; exact Nat.div_lt_of_lt_mul (by rw [Nat.mul_comm]; exact hq)
  have hj := Nat.mod_lt q R0
  have hqe : q / R * R + q % R = q := by rw [Nat.mul_comm]; exact Nat.div_add_mod q R
  rw [tkX_cons, gth_first at' _ hr rfl]
  have := nth_rows (n := szN n) (R := R) (F := fun i j => if (taA ⟨z.toNat, z.toNat, (pr r).toNat, fun i => (i : Int)⟩ n).f i < 0 ∨ (z.toNat : Int) ≤ (taA ⟨z.toNat, z.toNat, (pr r).toNat, fun i => (i : Int)⟩ n).f i then 0 else nth at' (((taA ⟨z.toNat, z.toNat, (pr r).toNat, fun i => (i : Int)⟩ n).f i).toNat * R + j)) hi hj
  rw [hqe] at this
  rw [hR] at this e ⊢
  refine this.trans ?_
  clear this
  generalize q / R = u at *
  generalize q % R = v at *
  by_cases c : n < 0
  · rw [if_pos c]
    have ef : (taA ⟨z.toNat, z.toNat, R, fun i => (i : Int)⟩ n).f u = (u : Int) + ((z.toNat : Int) - (szN n : Int)) := by
      unfold taA; dsimp only; rw [if_pos c]
    rw [ef, e, ← Nat.sub_mul]
    obtain ⟨d, hd⟩ : ∃ d, szN n - z.toNat = d := ⟨_, rfl⟩
    rw [hd]
    by_cases c2 : d ≤ u
    · have m := Nat.mul_le_mul_right R c2
      rw [if_neg (by omega), if_pos (by omega)]
      congr 1
      rw [show ((u : Int) + ((z.toNat : Int) - (szN n : Int))).toNat = u - d by omega, Nat.sub_mul]
      omega
    · have m := Nat.mul_le_mul_right R (show u + 1 ≤ d by omega)
      rw [Nat.add_mul, Nat.one_mul] at m
      rw [if_pos (by omega), if_neg (by omega)]
  · rw [if_neg c]
    have ef : (taA ⟨z.toNat, z.toNat, R, fun i => (i : Int)⟩ n).f u = (u : Int) := by
      unfold taA; dsimp only; rw [if_neg c]
    simp only [ef]
    by_cases c2 : z.toNat ≤ u
    · have m := Nat.mul_le_mul_right R c2
      rw [if_pos (by omega), nth_over (by omega)]
    · rw [if_neg (by omega), Int.toNat_natCast, hqe]
/-- Less than 0 atoms are never left; the parts' error is the size's. -/
theorem drX_none {z : Int} {r at' : List Int} (h : mayF (z :: r) = 0) {n : Int} (hn : z.toNat ≤ szN n) : gth at' (drX (z :: r) n) = [] := by
  have e := gth_len at' (drX (z :: r) n)
  rw [lens_drX h, pr_cons, show z.toNat - min (szN n) z.toNat = 0 by omega] at e
  rw [show ((0 : Nat) : Int) * pr r = 0 from Int.zero_mul _] at e
  exact List.length_eq_zero_iff.1 (by omega)
theorem mayF_17 {z k : Int} {r : List Int} (h : mayF (z :: r) = 0) (h0 : 0 ≤ k) : mayF (k :: r) = 0 ∨ mayF (k :: r) = 17 := by
  obtain ⟨h1, h2, h3⟩ := mayF_zero h
  by_cases c : pz (k :: r) ≤ 4096
  · left
    refine mayF_ok (fun j hj => ?_) (by simpa using h2) c
    cases j with
    | zero => exact h0
    | succ j => exact h1 (j + 1) (by simpa using hj)
  · right
    have hany : ((k :: r).any fun z => decide (z < 0)) = false := by
      rw [List.any_eq_false]
      intro x hx
      have hall : ∀ j, j < (k :: r).length → 0 ≤ nth (k :: r) j := fun j hj => by
        cases j with
        | zero => exact h0
        | succ j => exact h1 (j + 1) (by simpa using hj)
      obtain ⟨j, hj, rfl⟩ := List.mem_iff_getElem.1 hx
      have := hall j hj
      rw [show nth (k :: r) j = (k :: r)[j] by unfold nth; rw [List.getD_eq_getElem?_getD, List.getElem?_eq_getElem hj]; rfl] at this
      simp; omega
    unfold mayF
    rw [hany, if_neg (by simp)]
    split
    · rfl
    · rw [if_pos (by omega)]
end Go.Proofs.YtjpdjnkmipfmbaaGreat


namespace Go.Proofs.YtjpdjnkmipfmbaaGreat

open Go.RowKit

set_option linter.unusedVariables false

set_option maxHeartbeats 2000000 in
theorem itemize_any (so ao : Option Addr) (sn sc an ac : Nat) (sh at' : List Int) (w : World) (hs : Rd w so sn sh) (ss : Sl so sn sc) (ha : Rd w ao an at') (sa : Sl ao an ac) (h8 : sn < 8) :
    Calls Tryz.prog 39 #[.agg #[.slice so sn sc, .slice ao an ac]] w fun e w' => Ans w w.heap.size (1 :: sh) at' 0 e w' := by
  have U0 := un_start w so sn sc ao an ac
  have s0 := U0.sz
  have x := U0.all
  obtain ⟨x0, x1, _⟩ := x
  have t0 : ((sn : Int) == 8) = false := by simp; omega
  go_enter Tryz.func39, Tryz.ntmps39
  go_wp2
  generalize (w.alloc (.cells #[.slice so sn sc, .slice ao an ac] 25)).alloc (.cells #[.slice none 0 0, .slice none 0 0] 25) = W0 at *
  have k16 := box_below W0 (.cells #[.int .i64 1] 3)
  have fl := ft_new 3 W0 [1] (by simp) (num1 (by omega) (by omega))
  have k17 := box_below (W0.alloc (.cells #[.int .i64 1] 3)) (.cells #[.slice (some ⟨W0.heap.size, 0, none⟩) 1 1, .slice so sn sc] 23)
  have hv := allocNew (W0.alloc (.cells #[.int .i64 1] 3)) (.cells #[.slice (some ⟨W0.heap.size, 0, none⟩) 1 1, .slice so sn sc] 23)
  have UA := U0.below k16 s0
  have UB := UA.below k17 (by simp; omega)
  have UC := UB.drew
  have UD := UA.drew
  have cCo := concat_any (some ⟨W0.heap.size, 0, none⟩) so 1 1 sn sc (W0.heap.size + 1) [1] sh ((W0.alloc (.cells #[.int .i64 1] 3)).alloc (.cells #[.slice (some ⟨W0.heap.size, 0, none⟩) 1 1, .slice so sn sc] 23)).drew (by rw [World.size_alloc] at hv; exact hv) ((fl.rd.below k17 (Nat.le_refl _)).below (Below.refl _ _).drew (Nat.le_refl _)) fl.sl (hs.below UC.bel (Nat.le_refl _)) ss (by omega) (by omega)
  have c8 := fun V (U : Un w V so sn sc ao an ac) => copied8_any ao an ac at' V (ha.below U.bel (Nat.le_refl _)) sa
  have sB := UC.sz
  clear hv fl
  go_region_held3 (fun V => V.cell? ⟨w.heap.size, 0, none⟩ = some (.slice so sn sc) ∧ V.cell? ⟨w.heap.size, 1, none⟩ = some (.slice ao an ac) ∧ Un w V so sn sc ao an ac) (first | exact Un.all (by assumption) | exact Un.all (Un.drew (by assumption)) | exact Un.all (Un.set (by assumption) _ _))
    (first
      | (go_at_call 48; (with_reducible refine cCo.mono ?_); rintro e w4 ⟨o4, c4, rfl, f4, k4⟩; have U4 := UC.below k4 sB; have s4 := U4.sz)
      | (go_at_call 71; (with_reducible refine (c8 w4 U4).mono ?_); rintro e w5 ⟨o5, c5, rfl, f5, k5⟩; have U5 := U4.below k5 s4; have s5 := U5.sz; obtain ⟨u5, v5, hr5⟩ := U5.r; obtain ⟨z0, z1, z2, z3⟩ := box2 hr5))
  go_wp2
  (try simp only [Exit.inBlock, Exit.then])
  refine bodyPost_ret (v := .tuple #[.agg #[.slice o4 (1 + sn) c4, .slice o5 an c5], .int .i64 0]) (by rw [results_cell_tmp rfl]; go_simp) rfl ?_
  exact ⟨_, _, _, _, _, _, rfl, (ft_set (w := w) (f4.below k5 (Nat.le_refl _)) (by omega) _ _).mono (by omega), (ft_set (w := w) f5 (by omega) _ _).mono (by omega), below_set2 _ _ _ _ U5.bel (by omega) (Nat.le_refl _)⟩

end Go.Proofs.YtjpdjnkmipfmbaaGreat



namespace Go.Proofs.YtjpdjnkmipfmbaaGreat

open Go.RowKit

set_option linter.unusedVariables false

theorem ends_num {z : Int} {r at' : List Int} (my : mayA (z :: r) at' = 0) (h1 : 1 ≤ z) :
    itm (z :: r) at' = z ∧ (itmE (z :: r) at' 0 = 0 ∧ itmS (z :: r) at' 0 = r ∧ itmA (z :: r) at' 0 = at'.take (pr r).toNat) ∧ (itmE (z :: r) at' (-1) = 0 ∧ itmS (z :: r) at' (-1) = r ∧ itmA (z :: r) at' (-1) = at'.drop ((z.toNat - 1) * (pr r).toNat)) ∧ (prtE (z :: r) at' 1 (z - 1) = 0 ∧ prtS (z :: r) at' 1 (z - 1) = (z - 1) :: r ∧ prtA (z :: r) at' 1 (z - 1) = at'.drop (pr r).toNat) ∧ (prtE (z :: r) at' 0 (z - 1) = 0 ∧ prtS (z :: r) at' 0 (z - 1) = (z - 1) :: r ∧ prtA (z :: r) at' 0 (z - 1) = at'.take ((z.toNat - 1) * (pr r).toNat)) := by
  obtain ⟨m1, m2⟩ := mayA_zero my
  have e := atoms_len m1 m2
  have ht : tal (z :: r) = z := by unfold tal; rw [if_neg (by simp)]; rfl
  obtain ⟨R, hR⟩ : ∃ R, (pr r).toNat = R := ⟨_, rfl⟩
  have hz : itmZ (z :: r) at' = R := by unfold itmZ; rw [ht, e, hR]; exact Nat.mul_div_cancel_left _ (by omega)
  have hi : isz (z :: r) = R := hR
  have eS := Nat.succ_mul (z.toNat - 1) R
  rw [show (z.toNat - 1).succ = z.toNat by omega] at eS
  rw [hR] at e ⊢
  have a0 : itmE (z :: r) at' 0 = 0 := by unfold itmE; rw [if_neg (by simpa using my), ht, if_neg (by omega)]
  have a1 : itmE (z :: r) at' (-1) = 0 := by unfold itmE; rw [if_neg (by simpa using my), ht, if_neg (by omega)]
  have a2 : prtE (z :: r) at' 1 (z - 1) = 0 := by unfold prtE; rw [if_neg (by simpa using my), ht, if_neg (by omega)]
  have a3 : prtE (z :: r) at' 0 (z - 1) = 0 := by unfold prtE; rw [if_neg (by simpa using my), ht, if_neg (by omega)]
  refine ⟨by unfold itm; rw [if_pos my, ht], ⟨a0, by unfold itmS; rw [if_pos a0]; rfl, ?_⟩, ⟨a1, by unfold itmS; rw [if_pos a1]; rfl, ?_⟩, ⟨a2, by unfold prtS; rw [if_pos a2]; rfl, ?_⟩, ⟨a3, by unfold prtS; rw [if_pos a3]; rfl, ?_⟩⟩
  · unfold itmA itmJ; rw [if_pos a0, hz, if_neg (by omega)]; simp
  · unfold itmA itmJ; rw [if_pos a1, hz, if_pos (by omega), ht, show (-1 + z).toNat = z.toNat - 1 by omega]
    exact List.take_of_length_le (by rw [List.length_drop]; omega)
  · unfold prtA; rw [if_pos a2, hi, show (1 : Int).toNat = 1 from rfl, Nat.one_mul, show (z - 1).toNat = z.toNat - 1 by omega]
    exact List.take_of_length_le (by rw [List.length_drop]; omega)
  · unfold prtA; rw [if_pos a3, hi, show (0 : Int).toNat = 0 from rfl, Nat.zero_mul, List.drop_zero, show (z - 1).toNat = z.toNat - 1 by omega]
theorem ends_may {z : Int} {r at' : List Int} (my : mayA (z :: r) at' = 0) (h1 : 1 ≤ z) :
    mayA r (at'.take (pr r).toNat) = 0 ∧ mayA (1 :: r) (at'.take (pr r).toNat) = 0 ∧ mayA r (at'.drop ((z.toNat - 1) * (pr r).toNat)) = 0 ∧ mayA (1 :: r) (at'.drop ((z.toNat - 1) * (pr r).toNat)) = 0 ∧ mayA ((z - 1) :: r) (at'.drop (pr r).toNat) = 0 ∧ mayA ((z - 1) :: r) (at'.take ((z.toNat - 1) * (pr r).toNat)) = 0 := by
  obtain ⟨m1, m2⟩ := mayA_zero my
  have e := atoms_len m1 m2
  have hz := (mayF_zero m1).1
  have hr : ∀ k, k < r.length → 0 ≤ nth r k := fun k hk => hz (k + 1) (by simpa using hk)
  have hp := pr_nonneg hr
  have f0 := mayF_tail m1
  have f1 : mayF (1 :: r) = 0 := mayF_less m1 (by omega) (by omega)
  have f2 : mayF ((z - 1) :: r) = 0 := mayF_less m1 (by omega) (by omega)
  have eS := Nat.succ_mul (z.toNat - 1) (pr r).toNat
  rw [show (z.toNat - 1).succ = z.toNat by omega] at eS
  have p2 : (z - 1) * pr r = (((z.toNat - 1) * (pr r).toNat : Nat) : Int) := by
    rw [Int.natCast_mul, Int.toNat_of_nonneg hp, show ((z.toNat - 1 : Nat) : Int) = z - 1 by omega]
  refine ⟨mayA_ok f0 ?_, mayA_ok f1 ?_, mayA_ok f0 ?_, mayA_ok f1 ?_, mayA_ok f2 ?_, mayA_ok f2 ?_⟩
  · rw [List.length_take]; omega
  · rw [List.length_take, pr_cons]; omega
  · rw [List.length_drop]; omega
  · rw [List.length_drop, pr_cons]; omega
  · rw [List.length_drop, pr_cons, p2]; omega
  · rw [List.length_take, pr_cons, p2]; omega
theorem ends_join {z : Int} {r at' : List Int} (my : mayA (z :: r) at' = 0) (h1 : 1 ≤ z) : at'.take (pr r).toNat ++ at'.drop (pr r).toNat = at' ∧ at'.take ((z.toNat - 1) * (pr r).toNat) ++ at'.drop ((z.toNat - 1) * (pr r).toNat) = at' :=
  ⟨List.take_append_drop _ _, List.take_append_drop _ _⟩

theorem monad_item_ok (o1 o2 : Option Addr) (n1 c1 n2 c2 : Nat) (S A : List Int) (V : World) (r1 : Rd V o1 n1 S) (s1 : Sl o1 n1 c1) (r2 : Rd V o2 n2 A) (s2 : Sl o2 n2 c2) (my : mayA S A = 0) (h8 : S.length < 8) :
    Calls Tryz.prog 12 #[.int .i64 26, .agg #[.slice o1 n1 c1, .slice o2 n2 c2]] V fun e w' => Ans V V.heap.size (1 :: S) A 0 e w' :=
  monad_item o1 o2 n1 c1 n2 c2 S A (1 :: S) A 0 V r1 r2 my (fun V2 k2 => itemize_any o1 o2 n1 c1 n2 c2 S A V2 (r1.below k2 (Nat.le_refl _)) s1 (r2.below k2 (Nat.le_refl _)) s2 (by have := r1.len; omega))
theorem rank8 {z : Int} {r at' : List Int} (my : mayA (z :: r) at' = 0) : r.length < 8 := by
  have := (mayF_zero (mayA_zero my).1).2.1
  simp at this; omega
theorem rest_any (so ao : Option Addr) (sn sc an ac : Nat) (z : Int) (r at' : List Int) (w : World) (hs : Rd w so sn (z :: r)) (ss : Sl so sn sc) (ha : Rd w ao an at') (sa : Sl ao an ac) (my : mayA (z :: r) at' = 0) (h1 : 1 ≤ z) (h2 : z ≤ 4096) :
    Calls Tryz.prog 12 #[.int .i64 29, .agg #[.slice so sn sc, .slice ao an ac]] w fun e w' => Ans w w.heap.size ((z - 1) :: r) (at'.drop (pr r).toNat) 0 e w' := by
  obtain ⟨i0, _, _, ⟨a1, a2, a3⟩, _⟩ := ends_num my h1
  refine monad_drop so ao sn sc an ac (z :: r) at' _ _ 0 w hs ha my (fun V k => ?_)
  have := behead_any so ao sn sc an ac (z :: r) at' V (hs.below k (Nat.le_refl _)) ss (ha.below k (Nat.le_refl _)) sa z i0 h1 h2
  rw [a1, a2, a3] at this
  exact this
theorem front_any (so ao : Option Addr) (sn sc an ac : Nat) (z : Int) (r at' : List Int) (w : World) (hs : Rd w so sn (z :: r)) (ss : Sl so sn sc) (ha : Rd w ao an at') (sa : Sl ao an ac) (my : mayA (z :: r) at' = 0) (h1 : 1 ≤ z) (h2 : z ≤ 4096) :
    Calls Tryz.prog 12 #[.int .i64 31, .agg #[.slice so sn sc, .slice ao an ac]] w fun e w' => Ans w w.heap.size ((z - 1) :: r) (at'.take ((z.toNat - 1) * (pr r).toNat)) 0 e w' := by
  obtain ⟨i0, _, _, _, ⟨a1, a2, a3⟩⟩ := ends_num my h1
  refine monad_curt so ao sn sc an ac (z :: r) at' _ _ 0 w hs ha my (fun V k => ?_)
  have := curtail_any so ao sn sc an ac (z :: r) at' V (hs.below k (Nat.le_refl _)) ss (ha.below k (Nat.le_refl _)) sa z i0 h1 h2
  rw [a1, a2, a3] at this
  exact this
end Go.Proofs.YtjpdjnkmipfmbaaGreat


namespace Go.Proofs.YtjpdjnkmipfmbaaGreat

set_option linter.unusedVariables false

theorem com_self (a : List Int) : com a a = a := by
  have hl : (com a a).length = a.length := by simp [com]
  refine ext_nth hl fun k hk => ?_
  rw [hl] at hk
  rw [com_nth (by simpa using hk), ext_self (by simp), Int.max_self]
theorem cmn_same {xs : Nat → List Int × List Int} {I : List Int} : ∀ n, 0 < n → (∀ j, j < n → (xs j).1 = I) → cmn xs n = I
  | 0, h, _ => by omega
  | n + 1, _, h => by
    unfold cmn
    by_cases c : n = 0
    · rw [if_pos c]; exact h 0 (by omega)
    · rw [if_neg c, cmn_same n (by omega) (fun j hj => h j (by omega)), h n (by omega), com_self]
theorem jF_zero {fs : List Int} {xs : Nat → List Int × List Int} : ∀ n, (∀ k, k < n → jA fs xs k = 0) → jF fs xs n = 0
  | 0, _ => rfl
  | n + 1, h => by unfold jF; rw [if_pos (jF_zero n fun k hk => h k (by omega))]; exact h n (by omega)
theorem tgt_self {I : List Int} (h : mayF I = 0) {k : Nat} (hk : (k : Int) < pr I) : tgt I I k = k := by
  have hp := allPos_of h (Int.natCast_nonneg k) hk
  unfold tgt aix
  rw [Nat.sub_self, List.replicate_zero, List.nil_append, plc_digs hp (Int.natCast_nonneg k) hk _ (Nat.le_refl _), List.drop_length, pr_nil, Int.ediv_one]
  omega
theorem lyZ_copy {I a cur : List Int} {off : Nat} (h : mayF I = 0) : ∀ m : Nat, (m : Int) ≤ pr I → off + m ≤ cur.length → ∀ i, nth (lyZ cur off I I a m) i = if off ≤ i ∧ i < off + m then nth a (i - off) else nth cur i
  | 0, _, _, i => by rw [if_neg (by omega)]; rfl
  | m + 1, h1, h2, i => by
    show nth ((lyZ cur off I I a m).set (off + tgt I I m) (nth a m)) i = _
    rw [tgt_self h (by omega), nth_set (by rw [lyZ_len]; omega), lyZ_copy h m (by omega) (by omega) i]
    by_cases c : i = off + m
    · subst c
      rw [if_pos rfl, if_pos (by omega), Nat.add_sub_cancel_left]
    · rw [if_neg c]
      by_cases d : off ≤ i ∧ i < off + m
      · rw [if_pos d, if_pos (by omega)]
      · rw [if_neg d, if_neg (by omega)]
theorem jnZ_copy {I at' cur : List Int} {z : Nat} {xs : Nat → List Int × List Int} (h : mayF I = 0) (hz : (z : Int) = pr I) : ∀ n, n * z ≤ cur.length → n * z ≤ at'.length → (∀ j, j < n → xs j = (I, (at'.drop (j * z)).take z)) → ∀ i, nth (jnZ I z xs cur n) i = if i < n * z then nth at' i else nth cur i
  | 0, _, _, _, i => by rw [if_neg (by omega)]; rfl
  | n + 1, h1, h2, hx, i => by
    have e : (n + 1) * z = n * z + z := Nat.succ_mul n z
    show nth (lyZ (jnZ I z xs cur n) (n * z) I (xs n).1 (xs n).2 (xs n).2.length) i = _
    rw [hx n (by omega)]
    have hl : ((at'.drop (n * z)).take z).length = z := by simp; omega
    simp only []
    rw [hl, lyZ_copy h z (by omega) (by rw [jnZ_len]; omega) i, jnZ_copy h hz n (by omega) (by omega) (fun j hj => hx j (by omega)) i]
    by_cases c : n * z ≤ i ∧ i < n * z + z
    · rw [if_pos c, if_pos (by omega), nth_take (by omega), nth_drop]
      congr 1
      omega
    · rw [if_neg c]
      by_cases d : i < n * z
      · rw [if_pos d, if_pos (by omega)]
      · rw [if_neg d, if_neg (by omega)]

/-- What is known of an array's cells. -/
structure Bk (sh at' : List Int) (r : Int) : Prop where
  ms : mayF sh = 0
  la : (at'.length : Int) = pr sh
  cut : frm sh r ++ inn sh r = sh
  mf : mayF (frm sh r) = 0
  mi : mayF (inn sh r) = 0
  n : (npl sh r : Int) = pr (frm sh r)
  z : (clz sh r : Int) = pr (inn sh r)
  nz : npl sh r * clz sh r = at'.length
  n4 : npl sh r ≤ 4096
theorem bk_of {sh at' : List Int} (r : Int) (h : mayA sh at' = 0) : Bk sh at' r := by
  obtain ⟨h1, h2⟩ := mayA_zero h
  have f1 := mayF_take h1 (sh.length - rankF sh.length r)
  have f2 := mayF_drop h1 (sh.length - rankF sh.length r)
  obtain ⟨b1, b2⟩ := prF_bd f1
  obtain ⟨b3, b4⟩ := prF_bd f2
  have hc : pr (frm sh r) * pr (inn sh r) = pr sh := pr_cut r
  have n : (npl sh r : Int) = pr (frm sh r) := by unfold npl frm; omega
  have z : (clz sh r : Int) = pr (inn sh r) := by unfold clz inn; omega
  refine ⟨h1, h2, List.take_append_drop _ _, f1, f2, n, z, ?_, by unfold npl frm; omega⟩
  have : ((npl sh r * clz sh r : Nat) : Int) = at'.length := by rw [Int.natCast_mul, n, z, hc, h2]
  omega
theorem Bk.cell {sh at' : List Int} {r : Int} (h : Bk sh at' r) {k : Nat} (hk : k < npl sh r) : mayA (cls sh at' r k).1 (cls sh at' r k).2 = 0 := by
  refine mayA_ok h.mi ?_
  have e : (k + 1) * clz sh r ≤ npl sh r * clz sh r := Nat.mul_le_mul_right _ (by omega)
  rw [Nat.succ_mul, h.nz] at e
  have : ((at'.drop (k * clz sh r)).take (clz sh r)).length = clz sh r := by simp; omega
  show ((((at'.drop (k * clz sh r)).take (clz sh r)).length : Nat) : Int) = pr (inn sh r)
  rw [this, h.z]
theorem Bk.joins {sh at' : List Int} {r : Int} (h : Bk sh at' r) : ∀ k, k < npl sh r → jA (frm sh r) (cls sh at' r) k = 0 := fun k hk => by
  have e : nxt (cls sh at' r) k (inn sh r) = inn sh r := by
    have := cmn_same (xs := cls sh at' r) (I := inn sh r) (k + 1) (by omega) (fun j hj => rfl)
    rw [← nxt_cmn] at this
    exact this
  unfold jA addE
  rw [if_neg (by have := h.n; omega), if_neg (by rw [h.cell hk]; simp)]
  show (if mayF (nxt (cls sh at' r) k (inn sh r)) ≠ 0 ∨ mayF (frm sh r ++ nxt (cls sh at' r) k (inn sh r)) ≠ 0 then (17 : Int) else 0) = 0
  rw [e, h.cut, if_neg (by rw [h.mi, h.ms]; simp)]
theorem Bk.same {sh at' : List Int} {r : Int} (h : Bk sh at' r) (h0 : 0 < npl sh r) : cmn (cls sh at' r) (npl sh r) = inn sh r := cmn_same _ h0 fun j hj => rfl
theorem Bk.whole {sh at' : List Int} {r : Int} (h : Bk sh at' r) (h0 : 0 < npl sh r) :
    frm sh r ++ cmn (cls sh at' r) (npl sh r) = sh ∧ jnZ (cmn (cls sh at' r) (npl sh r)) (pr (cmn (cls sh at' r) (npl sh r))).toNat (cls sh at' r) (List.replicate (pr (frm sh r ++ cmn (cls sh at' r) (npl sh r))).toNat 0) (npl sh r) = at' := by
  rw [h.same h0, h.cut]
  refine ⟨rfl, ?_⟩
  have hz := h.z
  have hl : (List.replicate (pr sh).toNat (0 : Int)).length = at'.length := by have := h.la; simp; omega
  have e : (pr (inn sh r)).toNat = clz sh r := rfl
  rw [e]
  refine ext_nth (by rw [jnZ_len, hl]) fun k hk => ?_
  rw [jnZ_len, hl] at hk
  rw [jnZ_copy (at' := at') (xs := cls sh at' r) h.mi h.z (npl sh r) (by rw [hl, h.nz]; exact Nat.le_refl _) (by rw [h.nz]; exact Nat.le_refl _) (fun j hj => rfl) k, if_pos (by rw [h.nz]; exact hk)]
theorem Bk.beg {sh at' : List Int} {r : Int} (h : Bk sh at' r) (h0 : 0 < npl sh r) : begE (frm sh r) = 0 := by
  unfold begE
  rw [if_neg (by rw [h.mf]; simp), if_neg (by have := h.n; omega)]
theorem Bk.none {sh at' : List Int} {r : Int} (h : Bk sh at' r) (h0 : npl sh r = 0) : at' = [] := by
  have := h.nz
  rw [h0, Nat.zero_mul] at this
  exact List.eq_nil_of_length_eq_zero this.symm
theorem Bk.empty {sh at' : List Int} {r : Int} (h : Bk sh at' r) (h0 : npl sh r = 0) : empE (frm sh r) (inn sh r) (List.replicate (clz sh r) 0) true = 0 ∧ empS (frm sh r) (inn sh r) (List.replicate (clz sh r) 0) true = sh := by
  have e : empE (frm sh r) (inn sh r) (List.replicate (clz sh r) 0) true = 0 := by
    unfold empE
    rw [if_neg (by rw [h.mf]; simp), if_neg (by have := h.n; omega), if_pos rfl, if_neg (by rw [mayA_ok h.mi (by rw [List.length_replicate]; exact h.z)]; simp), h.cut, h.ms]
  refine ⟨e, ?_⟩
  unfold empS
  rw [e, if_neg (by simp), if_pos rfl, h.cut]
theorem mayA_why {sh at' : List Int} (h : mayA sh at' ≠ 0) : mayF sh ≠ 0 ∨ (mayF sh = 0 ∧ sizeF sh ≠ (at'.length : Int)) := by
  by_cases c : mayF sh = 0
  · refine .inr ⟨c, fun e => h (mayA_ok c ?_)⟩
    rw [← e, sizeF_ok c]
  · exact .inl c
end Go.Proofs.YtjpdjnkmipfmbaaGreat





namespace Go.Proofs.YtjpdjnkmipfmbaaGreat

open Go.RowKit

set_option linter.unusedVariables false

theorem szN_id {z : Int} (h0 : 0 ≤ z) (h4 : z ≤ 4096) : szN z = z.toNat := by unfold szN; omega
theorem jj_take {z : Int} {r ax ay : List Int} (mx : mayA (z :: r) ax = 0) (my : mayA (z :: r) ay = 0) (hD : mayF ((z + z) :: r) = 0) :
    mayF ((szN z : Int) :: r) = 0 ∧ filS ((szN z : Int) :: r) = z :: r ∧ gthS (ax ++ ay) (tkX ((z + z) :: r) z) = ax := by
  obtain ⟨m1, m2⟩ := mayA_zero mx
  obtain ⟨_, n2⟩ := mayA_zero my
  have hz : 0 ≤ z ∧ z ≤ 4096 := nth_small m1 (k := 0) (by simp)
  have l1 := atoms_len m1 m2
  have l2 := atoms_len m1 n2
  have es := szN_id hz.1 hz.2
  have e1 : ((szN z : Nat) : Int) = z := by omega
  have eL : ((ax ++ ay).length : Int) = pr ((z + z) :: r) := by rw [List.length_append, Int.natCast_add, m2, n2, pr_cons, pr_cons, Int.add_mul]
  refine ⟨by rw [e1]; exact m1, by rw [e1]; exact if_pos m1, ?_⟩
  unfold gthS
  rw [lens_tkX hD, e1, if_pos m1, gth_tkX hD eL (by omega), if_neg (by omega), es, ← l1, List.take_left]
theorem jj_drop {z : Int} {r ax ay : List Int} (mx : mayA (z :: r) ax = 0) (my : mayA (z :: r) ay = 0) (hD : mayF ((z + z) :: r) = 0) :
    mayF ((((z + z).toNat - min (szN z) (z + z).toNat : Nat) : Int) :: r) = 0 ∧ filS ((((z + z).toNat - min (szN z) (z + z).toNat : Nat) : Int) :: r) = z :: r ∧ gthS (ax ++ ay) (drX ((z + z) :: r) z) = ay := by
  obtain ⟨m1, m2⟩ := mayA_zero mx
  obtain ⟨_, n2⟩ := mayA_zero my
  have hz : 0 ≤ z ∧ z ≤ 4096 := nth_small m1 (k := 0) (by simp)
  have l1 := atoms_len m1 m2
  have l2 := atoms_len m1 n2
  have es := szN_id hz.1 hz.2
  have e1 : (((z + z).toNat - min (szN z) (z + z).toNat : Nat) : Int) = z := by omega
  have eL : ((ax ++ ay).length : Int) = pr ((z + z) :: r) := by rw [List.length_append, Int.natCast_add, m2, n2, pr_cons, pr_cons, Int.add_mul]
  refine ⟨by rw [e1]; exact m1, by rw [e1]; exact if_pos m1, ?_⟩
  unfold gthS
  rw [lens_drX hD, e1, if_pos m1, gth_drX hD eL (by omega)]
  by_cases h0 : 0 < z
  · rw [if_pos h0, es, ← l1, List.drop_left]
  · have z0 : z = 0 := by omega
    rw [if_neg h0]
    have : ax = [] := List.eq_nil_of_length_eq_zero (by rw [l1, z0]; simp)
    have : ay = [] := List.eq_nil_of_length_eq_zero (by rw [l2, z0]; simp)
    simp [*]
/-- Two arrays. -/
def two2 (s ax ay : List Int) : Nat → List Int × List Int := fun k => if k = 0 then (s, ax) else (s, ay)
theorem two2_jA {s ax ay : List Int} (mx : mayA s ax = 0) (my : mayA s ay = 0) : ∀ k, k < 2 → jA [2] (two2 s ax ay) k = if mayF (2 :: s) = 0 then 0 else 17 := by
  intro k hk
  obtain ⟨m1, _⟩ := mayA_zero mx
  have p2 : pr [2] = 2 := rfl
  have hn : ∀ j, j < 2 → nxt (two2 s ax ay) j s = s := by
    intro j hj
    unfold nxt
    split
    · rfl
    · obtain rfl : j = 1 := by omega
      have : cmn (two2 s ax ay) 1 = s := by simp [cmn, two2]
      rw [this, com_self]
  have hs : ((two2 s ax ay) k).1 = s := by unfold two2; split <;> rfl
  have hm : mayA s ((two2 s ax ay) k).2 = 0 := by unfold two2; split <;> assumption
  unfold jA addE
  rw [hs, hn k hk, p2, if_neg (by omega), if_neg (by simpa using hm), m1]
  by_cases h : mayF (2 :: s) = 0
  · rw [if_pos h, if_neg (by simpa using h)]
  · rw [if_neg h, if_pos (by right; simpa using h)]
theorem two2_jF {s ax ay : List Int} (mx : mayA s ax = 0) (my : mayA s ay = 0) : jF [2] (two2 s ax ay) 2 = if mayF (2 :: s) = 0 then 0 else 17 := by
  have a0 := two2_jA mx my 0 (by omega)
  have a1 := two2_jA mx my 1 (by omega)
  rw [jF, jF, jF, if_pos rfl, a0, a1]
  split
  · rfl
  · rfl
theorem two2_cmn (s ax ay : List Int) : cmn (two2 s ax ay) 2 = s := by
  simp [cmn, two2, com_self]
theorem two2_jn {s ax ay : List Int} (mx : mayA s ax = 0) (my : mayA s ay = 0) : jnZ s (pr s).toNat (two2 s ax ay) (List.replicate (pr ([2] ++ s)).toNat 0) 2 = ax ++ ay := by
  obtain ⟨m1, m2⟩ := mayA_zero mx
  obtain ⟨_, n2⟩ := mayA_zero my
  have hz : (((pr s).toNat : Nat) : Int) = pr s := by omega
  have l1 : ax.length = (pr s).toNat := by omega
  have l2 : ay.length = (pr s).toNat := by omega
  have lc : (pr ([2] ++ s)).toNat = 2 * (pr s).toNat := by
    rw [show [2] ++ s = 2 :: s from rfl, pr_cons]; omega
  have hx : ∀ j, j < 2 → two2 s ax ay j = (s, ((ax ++ ay).drop (j * (pr s).toNat)).take (pr s).toNat) := by
    intro j hj
    rcases (by omega : j = 0 ∨ j = 1) with rfl | rfl
    · unfold two2; rw [if_pos rfl, Nat.zero_mul, List.drop_zero, ← l1, List.take_left]
    · unfold two2; rw [if_neg (by omega), Nat.one_mul, ← l1, List.drop_left, List.take_of_length_le (by omega)]
  rw [lc]
  have key := jnZ_copy (cur := List.replicate (2 * (pr s).toNat) 0) (at' := ax ++ ay) m1 hz 2 (by rw [List.length_replicate]; exact Nat.le_refl _) (by rw [List.length_append]; omega) hx
  refine ext_nth ?_ (fun k hk => ?_)
  · rw [jnZ_len, List.length_replicate, List.length_append]; omega
  · rw [jnZ_len, List.length_replicate] at hk
    rw [key k, if_pos hk]
theorem two2_as {V : World} {xso xo so ao : Option Addr} {xsn xsc xn xc sn sc an ac : Nat} {s ax ay : List Int} (h1 : Rd V xso xsn s) (s1 : Sl xso xsn xsc) (h2 : Rd V xo xn ax) (s2 : Sl xo xn xc) (h3 : Rd V so sn s) (s3 : Sl so sn sc) (h4 : Rd V ao an ay) (s4 : Sl ao an ac) :
    As (V.alloc (.cells #[.slice xso xsn xsc, .slice xo xn xc, .slice so sn sc, .slice ao an ac] 25)) (some ⟨V.heap.size, 0, none⟩) 2 (two2 s ax ay) := by
  have hb := allocNew V (.cells #[.slice xso xsn xsc, .slice xo xn xc, .slice so sn sc, .slice ao an ac] 25)
  have k := box_below V (.cells #[.slice xso xsn xsc, .slice xo xn xc, .slice so sn sc, .slice ao an ac] 25)
  refine ⟨by omega, fun _ => ⟨V.heap.size, 0, rfl, by simp, fun j hj => ?_⟩⟩
  rcases (by omega : j = 0 ∨ j = 1) with rfl | rfl
  · exact ⟨xso, xsn, xsc, xo, xn, xc, (cell_of_row _ _ _ _ _ (0, 0) hb).trans rfl, (cell_of_row _ _ _ _ _ (0, 0) hb).trans rfl, h1.below k (Nat.le_refl _), s1, h2.below k (Nat.le_refl _), s2⟩
  · exact ⟨so, sn, sc, ao, an, ac, (cell_of_row _ _ _ _ _ (0, 0) hb).trans rfl, (cell_of_row _ _ _ _ _ (0, 0) hb).trans rfl, h3.below k (Nat.le_refl _), s3, h4.below k (Nat.le_refl _), s4⟩
set_option maxHeartbeats 2000000 in
theorem dyad_item (xso xo so ao : Option Addr) (xsn xsc xn xc sn sc an ac : Nat) (sx ax sy ay S A : List Int) (E : Int) (w : World) (hsx : Rd w xso xsn sx) (hax : Rd w xo xn ax) (hsy : Rd w so sn sy) (hay : Rd w ao an ay) (mx : mayA sx ax = 0) (my : mayA sy ay = 0) 
    (hc : ∀ V, Below w.heap.size w V → Calls Tryz.prog 28 #[.agg #[.slice xso xsn xsc, .slice xo xn xc], .agg #[.slice so sn sc, .slice ao an ac]] V fun e w' => Ans V V.heap.size S A E e w') :
    Calls Tryz.prog 6 #[.int .i64 26, .agg #[.slice xso xsn xsc, .slice xo xn xc], .agg #[.slice so sn sc, .slice ao an ac]] w fun e w' => Ans w w.heap.size S A E e w' := by
  have D0 := dw_start w xso xsn xsc xo xn xc so sn sc ao an ac
  have cM1 := mayA_any xso xo xsn xsc xn xc sx ax _ (hsx.below D0.bel (Nat.le_refl _)) (hax.below D0.bel (Nat.le_refl _))
  have cM2 := fun V (D : Dw w V xso xsn xsc xo xn xc so sn sc ao an ac) => mayA_any so ao sn sc an ac sy ay V (hsy.below D.bel (Nat.le_refl _)) (hay.below D.bel (Nat.le_refl _))
  rw [mx] at cM1
  rw [my] at cM2
  have cD := fun V => dyadOf_yes 26 3 V (by omega) rfl (by intro j hj; match j, hj with | 0, _ => exact (by decide : dOp 0 ≠ 26) | 1, _ => exact (by decide : dOp 1 ≠ 26) | 2, _ => exact (by decide : dOp 2 ≠ 26))
  rw [show dFnN 3 = 28 from rfl, show dNum 3 = false from rfl] at cD
  obtain ⟨x0, x1, x2, x3, _⟩ := D0.all
  clear mx my
  go_enter Tryz.func6, Tryz.ntmps6
  go_wp2_with (first
    | (go_at_call 18; (with_reducible refine cM1.mono ?_); rintro e w1 ⟨rfl, k1⟩; have D1 := D0.below k1 (Nat.le_refl _); obtain ⟨y0, y1, y2, y3, _⟩ := D1.all)
    | (go_at_call 18; (with_reducible refine (cM2 w1 D1).mono ?_); rintro e w2 ⟨rfl, k2⟩; have D2 := D1.below k2 (Nat.le_refl _))
    | (go_at_call 19; (with_reducible refine (cD w2).mono ?_); rintro e w3 ⟨rfl, k3⟩; have D3 := D2.below k3 (Nat.le_refl _); have D4 := D3.below (box_below w3 (.cells #[.int .i64 26, .bool false, .func (.func 28) #[] #[]] 46)) (Nat.le_refl _); obtain ⟨v0, v1, v2, v3, _⟩ := D4.all)
    | (go_at_call 28; (with_reducible refine (hc _ D4.bel).mono ?_); rintro e w5 ⟨o1, n1, c1, o2, n2, c2, rfl, f1, f2, k5⟩; have D5 := D4.below k5 (Nat.le_refl _); obtain ⟨u5, v5, hr5⟩ := D5.r; obtain ⟨z0, z1, z2, z3⟩ := box2 hr5))
  (try simp only [Exit.inBlock, Exit.then])
  refine bodyPost_ret (v := .tuple #[.agg #[.slice o1 n1 c1, .slice o2 n2 c2], .int .i64 E]) (by rw [results_cell_tmp rfl]; go_simp) rfl ?_
  have s3 := D3.sz
  exact ⟨o1, n1, c1, o2, n2, c2, rfl, (ft_set (w := w) f1 (by simp; omega) _ _).mono (by simp; omega), (ft_set (w := w) f2 (by simp; omega) _ _).mono (by simp; omega), below_set2 _ _ _ _ D5.bel (by omega) (Nat.le_refl _)⟩

end Go.Proofs.YtjpdjnkmipfmbaaGreat
