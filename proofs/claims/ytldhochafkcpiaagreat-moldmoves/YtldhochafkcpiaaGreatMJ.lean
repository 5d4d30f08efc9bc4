
/- Contracts of package mold: arrays that are turned and cut by numbers. -/

import Derived.Test.YtldhochafkcpiaaGreatMG
import Derived.Deep.RegionHeld3

namespace Go.Proofs.YtldhochafkcpiaaGreat

open Go.RowKit

set_option linter.unusedVariables false

/-- How many places a number asks for. -/
def szN (n : Int) : Nat := min n.natAbs 4097
theorem szN_le (n : Int) : szN n ≤ 4097 := by unfold szN; omega
theorem ret_nat {a : Int} {b : Nat} (h : a = (b : Int)) : Ending.returned (.int .i64 a) = .returned (.int .i64 (b : Nat)) := by rw [h]
set_option maxHeartbeats 1000000 in
theorem msize_any (n : Int) (w : World) (h1 : -9223372036854775808 ≤ n) (h2 : n ≤ 9223372036854775807) : Calls Tryz.prog 90 #[.int .i64 n] w fun e w' => e = .returned (.int .i64 (szN n : Nat)) ∧ w' = w := by
  have HS : Hid (szN n = min n.natAbs 4097) := rfl
  by_cases c : n < 0
  · have w1 : IntKind.u64.wrap n = n + 18446744073709551616 := by
      have : IntKind.u64.wrap n = IntKind.u64.wrap (n + 18446744073709551616) := by simp [IntKind.wrap, IntKind.bits]
      rw [this]; exact IntWalk.u64_in _ (by omega)
    have w2 : IntKind.u64.wrap (-(n + 18446744073709551616)) = -n := by
      have : IntKind.u64.wrap (-(n + 18446744073709551616)) = IntKind.u64.wrap (-n) := by
        rw [show -(n + 18446744073709551616) = -n - 18446744073709551616 by omega]; simp [IntKind.wrap, IntKind.bits]
      rw [this]; exact IntWalk.u64_in _ (by omega)
    have t0 : decide (n < 0) = true := by simpa using c
    have HC : Hid (n < 0) := c
    clear c
    go_enter Tryz.func90, Tryz.ntmps90
    go_wp2
    all_goals
      go_ret
      exact ⟨ret_nat (by have := HS.out; have := HC.out; omega), rfl⟩
  · have w1 : IntKind.u64.wrap n = n := IntWalk.u64_in _ (by omega)
    have t0 : decide (n < 0) = false := by simpa using c
    have HC : Hid (¬ n < 0) := c
    clear c
    go_enter Tryz.func90, Tryz.ntmps90
    go_wp2
    all_goals
      go_ret
      exact ⟨ret_nat (by have := HS.out; have := HC.out; omega), rfl⟩

/-- An axis that was answered: its way leans on what it leaned on, and on what is new. -/
def AxN (w w' : World) (bs0 : List Nat) (a : Ax) (v : Value) : Prop :=
  ∃ (K : Nat) (cs : Array Value) (bs : List Nat), v = .agg #[.int .i64 (a.len : Nat), .int .i64 (a.wid : Nat), .int .i64 (a.stp : Nat), .func (.func K) #[] cs] ∧ Way w' bs a.wid a.stp a.f (.func (.func K) #[] cs) ∧ ∀ b, b ∈ bs → (∃ v, w'.cell? ⟨b, 0, none⟩ = some v) ∧ (b ∈ bs0 ∨ w.heap.size ≤ b)
def taA (a : Ax) (n : Int) : Ax := ⟨szN n, a.wid, a.stp, if n < 0 then fun i => (i : Int) + ((a.wid : Int) - (szN n : Int)) else a.f⟩
theorem axn_same {w w' : World} {bs : List Nat} {a : Ax} {K : Nat} {cs : Array Value} (h : Way w bs a.wid a.stp a.f (.func (.func K) #[] cs)) (hbs : ∀ b, b ∈ bs → ∃ v, w.cell? ⟨b, 0, none⟩ = some v) (hb : Below w.heap.size w w') : AxN w w' bs a (.agg #[.int .i64 (a.len : Nat), .int .i64 (a.wid : Nat), .int .i64 (a.stp : Nat), .func (.func K) #[] cs]) := by
  refine ⟨K, cs, bs, rfl, h.keep (fun b m => ?_), fun b m => ?_⟩
  · obtain ⟨v, hv⟩ := hbs b m
    exact hb.block b (World.block_lt_of_cell? w _ hv)
  · obtain ⟨v, hv⟩ := hbs b m
    exact ⟨⟨v, (hb.cell (p := ⟨b, 0, none⟩) (World.block_lt_of_cell? w _ hv)).trans hv⟩, .inl m⟩

theorem three_below (w : World) (o1 o2 o3 : Obj) : Below w.heap.size w (((w.alloc o1).alloc o2).alloc o3) :=
  (((Below.refl _ w).alloc (Nat.le_refl _) _).alloc (by simp) _).alloc (by simp; omega) _

theorem shifted_eq (d : Int) (w : World) : Calls Tryz.prog 91 #[.int .i64 d] w fun e w' => e = .returned (shV w.heap.size) ∧ w' = w.alloc (.cells #[.int .i64 d] 3) := by
  unfold shV
  go_enter Tryz.func91, Tryz.ntmps91
  go_wp2
  go_ret
  exact ⟨rfl, rfl⟩

set_option maxHeartbeats 2000000 in
theorem take_any (a : Ax) (n : Int) (K : Nat) (cs : Array Value) (bs : List Nat) (w : World) (hw : a.wid ≤ 4096) (hs : a.stp ≤ 4096) (hl : a.len ≤ 1000000) (h1 : -9223372036854775808 ≤ n) (h2 : n ≤ 9223372036854775807) (hway : Way w bs a.wid a.stp a.f (.func (.func K) #[] cs)) (hbs : ∀ b, b ∈ bs → ∃ v, w.cell? ⟨b, 0, none⟩ = some v) :
    Calls Tryz.prog 63 #[.agg #[.int .i64 (a.len : Nat), .int .i64 (a.wid : Nat), .int .i64 (a.stp : Nat), .func (.func K) #[] cs], .int .i64 n] w fun e w' => ∃ v, e = .returned v ∧ AxN w w' bs (taA a n) v ∧ Below w.heap.size w w' := by
  obtain ⟨len, wid, stp, f⟩ := a
  dsimp only at *
  have hz := fun V => msize_any n V h1 h2
  have hle := szN_le n
  have hsh := fun V => shifted_eq ((wid : Int) - (szN n : Int)) V
  by_cases c : n < 0
  · have e : taA ⟨len, wid, stp, f⟩ n = ⟨szN n, wid, stp, fun i => (i : Int) + ((wid : Int) - (szN n : Int))⟩ := by unfold taA; rw [if_pos c]
    rw [e]
    have t0 : decide (n < 0) = true := by simpa using c
    have w1 := wr (z := (wid : Int) - (szN n : Int)) (by omega) (by omega)
    clear e c
    generalize szN n = S at *
    unfold shV at hsh
    go_enter Tryz.func63, Tryz.ntmps63
    go_wp2_with (first | (go_at_call 90; refine (hz _).mono ?_; rintro e w' ⟨rfl, rfl⟩) | (go_at_call 91; refine (hsh _).mono ?_; rintro e w' ⟨rfl, rfl⟩))
    (try simp only [Exit.inBlock, Exit.then])
    refine bodyPost_ret (v := .agg #[.int .i64 (S : Nat), .int .i64 (wid : Nat), .int .i64 (stp : Nat), shV (w.heap.size + 1 + 1)]) (by simp [results, Tryz.results63]; go_simp; rfl) rfl ?_
    refine ⟨_, rfl, ⟨_, _, [w.heap.size + 1 + 1], rfl, ?_, fun b m => ?_⟩, three_below w _ _ _⟩
    · refine way_sh (d := (wid : Int) - (S : Int)) wid stp hw hs ?_ (by omega) (by omega)
      go_simp
    rw [List.mem_singleton] at m
    subst m
    refine ⟨⟨.int .i64 ((wid : Int) - (S : Int)), ?_⟩, .inr (by omega)⟩
    go_simp
  · have e : taA ⟨len, wid, stp, f⟩ n = ⟨szN n, wid, stp, f⟩ := by unfold taA; rw [if_neg c]
    rw [e]
    have t0 : decide (n < 0) = false := by simpa using c
    clear e c hsh
    generalize szN n = S at *
    go_enter Tryz.func63, Tryz.ntmps63
    go_wp2_with (go_at_call 90; refine (hz _).mono ?_; rintro e w' ⟨rfl, rfl⟩)
    (try simp only [Exit.inBlock, Exit.then])
    refine bodyPost_ret (v := .agg #[.int .i64 (S : Nat), .int .i64 (wid : Nat), .int .i64 (stp : Nat), .func (.func K) #[] cs]) (by simp [results, Tryz.results63]; go_simp) rfl ?_
    exact ⟨_, rfl, axn_same (a := ⟨S, wid, stp, f⟩) hway hbs ((box_below w _).trans ((box_below _ _).mono (by simp))), (box_below w _).trans ((box_below _ _).mono (by simp))⟩

end Go.Proofs.YtldhochafkcpiaaGreat


namespace Go.Proofs.YtldhochafkcpiaaGreat

open Go.RowKit

set_option linter.unusedVariables false

/-- The axes, the first ones changed by the numbers. -/
def chL (F : Ax → Int → Ax) : List Ax → List Int → List Ax
  | axs, [] => axs
  | [], _ :: _ => []
  | a :: r, x :: xs => F a x :: chL F r xs
theorem chL_nil (F : Ax → Int → Ax) (axs : List Ax) : chL F axs [] = axs := by simp [chL]
theorem chL_step (F : Ax → Int → Ax) : ∀ (axs : List Ax) (xs : List Int) (k : Nat), k < axs.length → k < xs.length → chL F axs (xs.take (k + 1)) = (chL F axs (xs.take k)).set k (F (nax axs k) (nth xs k)) ∧ nax (chL F axs (xs.take k)) k = nax axs k
  | [], _, k, h, _ => by simp at h
  | a :: r, [], k, _, h => by simp at h
  | a :: r, x :: xs, 0, _, _ => by
    constructor
    · rw [show (x :: xs).take (0 + 1) = [x] by simp, show (x :: xs).take 0 = [] from rfl, chL_nil]; simp [chL, nax, nth]
    · rw [show (x :: xs).take 0 = [] from rfl, chL_nil]
  | a :: r, x :: xs, k + 1, h, h2 => by
    obtain ⟨i1, i2⟩ := chL_step F r xs k (by simpa using h) (by simpa using h2)
    rw [show (x :: xs).take (k + 1 + 1) = x :: xs.take (k + 1) by simp, show (x :: xs).take (k + 1) = x :: xs.take k by simp]
    constructor
    · simp only [chL]
      rw [i1]
      simp [nax, nth]
    · simp only [chL]
      simpa [nax] using i2

/-- Between two rounds of alongAxes. -/
structure Al (w0 w V : World) (g n : Nat) (axs : List Ax) (xso : Option Addr) (xsn xsc : Nat) (xo : Option Addr) (xn xc : Nat) (so : Option Addr) (sn sc : Nat) (ao : Option Addr) (an ac : Nat) : Prop where
  bel : Below w0.heap.size w0 V
  sz : w.heap.size + 3 ≤ V.heap.size
  c0 : V.heap[w.heap.size]? = some (.cells #[.slice xso xsn xsc, .slice xo xn xc] 25 (0, 0))
  d0 : V.heap[w.heap.size + 1]? = some (.cells #[.slice so sn sc, .slice ao an ac] 25 (0, 0))
  r : V.heap[w.heap.size + 1 + 1]? = some (.cells #[.slice none 0 0, .slice none 0 0] 25 (0, 0))
  ax : Axs V g n axs
theorem Al.below {w0 w V V' : World} {g n : Nat} {axs : List Ax} {xso : Option Addr} {xsn xsc : Nat} {xo : Option Addr} {xn xc : Nat} {so : Option Addr} {sn sc : Nat} {ao : Option Addr} {an ac : Nat} (h : Al w0 w V g n axs xso xsn xsc xo xn xc so sn sc ao an ac) (hb : Below V.heap.size V V') : Al w0 w V' g n axs xso xsn xsc xo xn xc so sn sc ao an ac :=
  ⟨h.bel.trans (hb.mono h.bel.size), Nat.le_trans h.sz hb.size, (hb.block _ (by have := h.sz; omega)).trans h.c0, (hb.block _ (by have := h.sz; omega)).trans h.d0, (hb.block _ (by have := h.sz; omega)).trans h.r, h.ax.below hb⟩
theorem Al.put {w0 w V : World} {g n k : Nat} {axs : List Ax} {xso : Option Addr} {xsn xsc : Nat} {xo : Option Addr} {xn xc : Nat} {so : Option Addr} {sn sc : Nat} {ao : Option Addr} {an ac : Nat} {a : Ax} {K : Nat} {cs : Array Value} {bs : List Nat} (h : Al w0 w V g n axs xso xsn xsc xo xn xc so sn sc ao an ac) (hk : k < n) (hg : g < w.heap.size) (hg0 : w0.heap.size ≤ g) (v : AxV V (fun b => b ≠ g) a K cs bs) :
    Al w0 w (put4 V g k (.int .i64 (a.len : Nat)) (.int .i64 (a.wid : Nat)) (.int .i64 (a.stp : Nat)) (.func (.func K) #[] cs)) g n (axs.set k a) xso xsn xsc xo xn xc so sn sc ao an ac := by
  have hgr := put4_grown V g k (.int .i64 (a.len : Nat)) (.int .i64 (a.wid : Nat)) (.int .i64 (a.stp : Nat)) (.func (.func K) #[] cs)
  have ne : ∀ b, w.heap.size ≤ b → some b ≠ some g := fun b hb e => by cases e; omega
  exact ⟨below_set4 _ _ _ _ _ _ _ _ h.bel hg0, Nat.le_trans h.sz hgr.size, (hgr.block _ (by have := h.sz; omega) (ne _ (by omega))).trans h.c0, (hgr.block _ (by have := h.sz; omega) (ne _ (by omega))).trans h.d0, (hgr.block _ (by have := h.sz; omega) (ne _ (by omega))).trans h.r, h.ax.put hk v⟩
theorem al_start {w0 w : World} {g n : Nat} {axs : List Ax} (xso : Option Addr) (xsn xsc : Nat) (xo : Option Addr) (xn xc : Nat) (so : Option Addr) (sn sc : Nat) (ao : Option Addr) (an ac : Nat) (hb : Below w0.heap.size w0 w) (ha : Axs w g n axs) :
    Al w0 w (((w.alloc (.cells #[.slice xso xsn xsc, .slice xo xn xc] 25)).alloc (.cells #[.slice so sn sc, .slice ao an ac] 25)).alloc (.cells #[.slice none 0 0, .slice none 0 0] 25)) g n axs xso xsn xsc xo xn xc so sn sc ao an ac := by
  have b0 := allocNew w (.cells #[.slice xso xsn xsc, .slice xo xn xc] 25)
  have b1 := allocNew (w.alloc (.cells #[.slice xso xsn xsc, .slice xo xn xc] 25)) (.cells #[.slice so sn sc, .slice ao an ac] 25)
  have b2 := allocNew ((w.alloc (.cells #[.slice xso xsn xsc, .slice xo xn xc] 25)).alloc (.cells #[.slice so sn sc, .slice ao an ac] 25)) (.cells #[.slice none 0 0, .slice none 0 0] 25)
  have k1 := box_below (w.alloc (.cells #[.slice xso xsn xsc, .slice xo xn xc] 25)) (.cells #[.slice so sn sc, .slice ao an ac] 25)
  have k2 := box_below ((w.alloc (.cells #[.slice xso xsn xsc, .slice xo xn xc] 25)).alloc (.cells #[.slice so sn sc, .slice ao an ac] 25)) (.cells #[.slice none 0 0, .slice none 0 0] 25)
  have k3 := three_below w (.cells #[.slice xso xsn xsc, .slice xo xn xc] 25) (.cells #[.slice so sn sc, .slice ao an ac] 25) (.cells #[.slice none 0 0, .slice none 0 0] 25)
  simp only [World.size_alloc] at b1 b2
  exact ⟨hb.trans (k3.mono hb.size), by simp, (k2.block _ (by simp; omega)).trans ((k1.block _ (by simp)).trans b0), (k2.block _ (by simp)).trans b1, b2, ha.below k3⟩

/-- What stands at one axis. -/
theorem Axs.at2 {W : World} {g n : Nat} {axs : List Ax} (h : Axs W g n axs) {k : Nat} (hk : k < n) : ∃ (K : Nat) (cs : Array Value) (bs : List Nat), W.cell? ⟨g, k * 4, none⟩ = some (.int .i64 ((nax axs k).len : Nat)) ∧ W.cell? ⟨g, k * 4 + 1, none⟩ = some (.int .i64 ((nax axs k).wid : Nat)) ∧ W.cell? ⟨g, k * 4 + 2, none⟩ = some (.int .i64 ((nax axs k).stp : Nat)) ∧ W.cell? ⟨g, k * 4 + 3, none⟩ = some (.func (.func K) #[] cs) ∧ Way W bs (nax axs k).wid (nax axs k).stp (nax axs k).f (.func (.func K) #[] cs) ∧ (∀ b, b ∈ bs → (∃ v, W.cell? ⟨b, 0, none⟩ = some v) ∧ b ≠ g) ∧ (nax axs k).wid ≤ 4096 ∧ (nax axs k).stp ≤ 4096 := by
  obtain ⟨cur, h1, h2, h3⟩ := h.row
  obtain ⟨K, cs, bs, a1, a2, a3, a4, a5, a6, a7, a8⟩ := h3 k hk
  exact ⟨K, cs, bs, (cell_of_row W g _ _ _ (0, 0) h1).trans (by simpa using a1), (cell_of_row W g _ _ _ (0, 0) h1).trans (by simpa using a2), (cell_of_row W g _ _ _ (0, 0) h1).trans (by simpa using a3), (cell_of_row W g _ _ _ (0, 0) h1).trans (by simpa using a4), a5, a6, a7, a8⟩
theorem Axs.slots {W : World} {g n : Nat} {axs : List Ax} (h : Axs W g n axs) {k : Nat} (hk : k < n) : ∃ x y z u, W.cell? ⟨g, k * 4, none⟩ = some x ∧ W.cell? ⟨g, k * 4 + 1, none⟩ = some y ∧ W.cell? ⟨g, k * 4 + 2, none⟩ = some z ∧ W.cell? ⟨g, k * 4 + 3, none⟩ = some u ∧ W.frozen? ⟨g, k * 4, none⟩ = false ∧ W.frozen? ⟨g, k * 4 + 1, none⟩ = false ∧ W.frozen? ⟨g, k * 4 + 2, none⟩ = false ∧ W.frozen? ⟨g, k * 4 + 3, none⟩ = false := by
  obtain ⟨cur, h1, h2, _⟩ := h.row
  exact slot4 h1 h2 hk

theorem taA_bd {a : Ax} {n : Int} (h1 : a.wid ≤ 4096) (h2 : a.stp ≤ 4096) : (taA a n).wid ≤ 4096 ∧ (taA a n).stp ≤ 4096 := ⟨h1, h2⟩
set_option maxHeartbeats 4000000 in
set_option maxRecDepth 20000 in
theorem alongAxes_take (w0 : World) (xso xo so ao : Option Addr) (xsn xsc xn xc sn sc an ac g n gc : Nat) (xs at' : List Int) (axs : List Ax) (w : World) (hx : Rd w0 xo xn xs) (ha : Rd w0 ao an at') (hb : Below w0.heap.size w0 w) (hg : w0.heap.size ≤ g) (hax : Axs w g n axs) (hn : n ≤ 5000) (hle : xn ≤ n) (hl0 : ∀ k, k < n → (nax axs k).len ≤ 1000000) (hl : ∀ k, k < n → (nax (chL taA axs xs) k).len ≤ 1000000)
    (hp : mayF (lens (chL taA axs xs)) = 0 → ∀ p, p ∈ pls (chL taA axs xs) → p = -1 ∨ (0 ≤ p ∧ p < an)) :
    Calls Tryz.prog 65 #[.agg #[.slice xso xsn xsc, .slice xo xn xc], .agg #[.slice so sn sc, .slice ao an ac], .slice (some ⟨g, 0, none⟩) n gc, .func (.func 63) #[] #[]] w fun e w' => ∃ o1 n1 c1 o2 n2 c2, e = .returned (.tuple #[.agg #[.slice o1 n1 c1, .slice o2 n2 c2], .int .i64 (mayF (lens (chL taA axs xs)))]) ∧ Ft 3 w' w0.heap.size o1 n1 c1 (filS (lens (chL taA axs xs))) ∧ Ft 2 w' w0.heap.size o2 n2 c2 (gthS at' (chL taA axs xs)) ∧ Below w0.heap.size w0 w' := by
  have hgl := hax.lt
  have A0 := al_start xso xsn xsc xo xn xc so sn sc ao an ac hb hax
  have HXL : Hid (xs.length = xn) := hx.len
  have HAL : Hid (axs.length = n) := hax.len
  have HL : Hid (∀ k, k < n → (nax (chL taA axs xs) k).len ≤ 1000000) := hl
  have HL0 : Hid (∀ k, k < n → (nax axs k).len ≤ 1000000) := hl0
  have HP : Hid (mayF (lens (chL taA axs xs)) = 0 → ∀ p, p ∈ pls (chL taA axs xs) → p = -1 ∨ (0 ≤ p ∧ p < an)) := hp
  have t0 : decide (n < xn) = false := by simp; omega
  clear hax hl hp hl0
  obtain ⟨x0, x1, _, _⟩ := box2 A0.c0
  go_enter Tryz.func65, Tryz.ntmps65
  go_wp2
  clear x0 x1
  generalize (((w.alloc (.cells #[.slice xso xsn xsc, .slice xo xn xc] 25)).alloc (.cells #[.slice so sn sc, .slice ao an ac] 25)).alloc (.cells #[.slice none 0 0, .slice none 0 0] 25)) = W0 at *
  go_loopw [22] (fun i V => ∃ k : Nat, k ≤ xn ∧ i = .int .i64 (k : Nat) ∧ Al w0 w V g n (chL taA axs (xs.take k)) xso xsn xsc xo xn xc so sn sc ao an ac) (fun i _ => xn - (intOf i).toNat)
  case atStart => exact ⟨0, Nat.zero_le _, rfl, by rw [List.take_zero, chL_nil]; exact A0⟩
  case round =>
    obtain ⟨k, hk, rfl, A⟩ := hrel
    clear A0
    by_cases hlt : k < xn
    · obtain ⟨e1, e2⟩ := chL_step taA axs xs k (by rw [HAL.out]; omega) (by rw [HXL.out]; exact hlt)
      have hkn : k < n := by omega
      obtain ⟨b, off, rfl, hbb, hc⟩ := (hx.below A.bel (Nat.le_refl _)).cells (by omega)
      have c1 := hc k hlt
      have hnum := hx.num k hlt
      obtain ⟨K, cs, bs, y0, y1, y2, y3, hway, hbs, hwd, hst⟩ := A.ax.at2 hkn
      rw [e2] at y0 y1 y2 hway hwd hst
      have hcall := take_any (nax axs k) (nth xs k) K cs bs wr hwd hst (HL0.out k hkn) hnum.1 hnum.2 hway (fun b m => (hbs b m).1)
      have HE : Hid (chL taA axs (xs.take (k + 1)) = (chL taA axs (xs.take k)).set k (taA (nax axs k) (nth xs k))) := e1
      have HB : Hid (∀ b, b ∈ bs → (∃ v, wr.cell? ⟨b, 0, none⟩ = some v) ∧ b ≠ g) := hbs
      have HWD : Hid ((taA (nax axs k) (nth xs k)).wid ≤ 4096 ∧ (taA (nax axs k) (nth xs k)).stp ≤ 4096) := taA_bd hwd hst
      have bk : (k : Int) < (n : Int) := by omega
      clear hc e1 e2 hway hbs hwd hst hnum
      go_wp2_with (go_at_call 63; (with_reducible refine hcall.mono ?_); rintro e w3 ⟨v, rfl, ⟨K', cs', bs', rfl, way', out'⟩, b3⟩; have A3 := A.below b3; obtain ⟨s0, s1, s2, s3, z0, z1, z2, z3, f0, f1, f2, f3⟩ := A3.ax.slots hkn)
      go_roundw
      case rel =>
        refine ⟨k + 1, by omega, by go_num, ?_⟩
        rw [HE.out]
        refine A3.put hkn hgl hg (bs := bs') ⟨way', fun b m => ?_, HWD.out.1, HWD.out.2⟩
        refine ⟨(out' b m).1, ?_⟩
        rcases (out' b m).2 with h | h
        · exact (HB.out b h).2
        · have := A.ax.lt; omega
      case measure => simp [intOf]; omega
    · obtain rfl : xn = k := by omega
      rw [List.take_of_length_le (by rw [HXL.out]; exact Nat.le_refl _)] at A
      have hcall := gather_any so ao (some ⟨g, 0, none⟩) sn sc an ac n gc at' (chL taA axs xs) wr (ha.below A.bel (Nat.le_refl _)) A.ax.ax hn HL.out HP.out
      obtain ⟨x0, x1, _, _⟩ := box2 A.d0
      go_wp2_with (go_at_call 68; (with_reducible refine hcall.mono ?_); rintro e w3 ⟨o1, n1, c1, o2, n2, c2, rfl, f1, f2, b3⟩; have A3 := A.below b3; obtain ⟨z0, z1, z2, z3⟩ := box2 A3.r)
      (try simp only [Exit.inBlock, Exit.then])
      refine bodyPost_ret (v := .tuple #[.agg #[.slice o1 n1 c1, .slice o2 n2 c2], .int .i64 (mayF (lens (chL taA axs xs)))]) (by rw [results_cell_tmp rfl]; go_simp) rfl ?_
      have hs := A.sz
      have hbz := A.bel.size
      have hb0 := hb.size
      exact ⟨o1, n1, c1, o2, n2, c2, rfl, (ft_set (w := w) f1 (by omega) _ _).mono (by omega), (ft_set (w := w) f2 (by omega) _ _).mono (by omega), below_set2 _ _ _ _ A3.bel (by omega) (Nat.le_refl _)⟩
end Go.Proofs.YtldhochafkcpiaaGreat



namespace Go.Proofs.YtldhochafkcpiaaGreat

open Go.RowKit

set_option linter.unusedVariables false

/-- Two arrays in their boxes, and a third box for the answer, whatever it holds. -/
structure Du (w W : World) (xso : Option Addr) (xsn xsc : Nat) (xo : Option Addr) (xn xc : Nat) (so : Option Addr) (sn sc : Nat) (ao : Option Addr) (an ac : Nat) : Prop where
  c0 : W.cell? ⟨w.heap.size, 0, none⟩ = some (.slice xso xsn xsc)
  c1 : W.cell? ⟨w.heap.size, 1, none⟩ = some (.slice xo xn xc)
  d0 : W.cell? ⟨w.heap.size + 1, 0, none⟩ = some (.slice so sn sc)
  d1 : W.cell? ⟨w.heap.size + 1, 1, none⟩ = some (.slice ao an ac)
  r : ∃ x y, W.heap[w.heap.size + 1 + 1]? = some (.cells #[x, y] 25 (0, 0))
  bel : Below w.heap.size w W
theorem Du.sz {w W : World} {xso : Option Addr} {xsn xsc : Nat} {xo : Option Addr} {xn xc : Nat} {so : Option Addr} {sn sc : Nat} {ao : Option Addr} {an ac : Nat} (h : Du w W xso xsn xsc xo xn xc so sn sc ao an ac) : w.heap.size + 3 ≤ W.heap.size := by
  obtain ⟨x, y, hr⟩ := h.r
  have := (Array.getElem?_eq_some_iff.1 hr).1
  omega
theorem Du.below {w W W' : World} {xso : Option Addr} {xsn xsc : Nat} {xo : Option Addr} {xn xc : Nat} {so : Option Addr} {sn sc : Nat} {ao : Option Addr} {an ac : Nat} {B : Nat} (h : Du w W xso xsn xsc xo xn xc so sn sc ao an ac) (k : Below B W W') (hB : W.heap.size ≤ B) : Du w W' xso xsn xsc xo xn xc so sn sc ao an ac := by
  have hs := h.sz
  obtain ⟨x, y, hr⟩ := h.r
  exact ⟨(k.cell (p := ⟨w.heap.size, 0, none⟩) (show w.heap.size < B by omega)).trans h.c0, (k.cell (p := ⟨w.heap.size, 1, none⟩) (show w.heap.size < B by omega)).trans h.c1, (k.cell (p := ⟨w.heap.size + 1, 0, none⟩) (show w.heap.size + 1 < B by omega)).trans h.d0, (k.cell (p := ⟨w.heap.size + 1, 1, none⟩) (show w.heap.size + 1 < B by omega)).trans h.d1, ⟨x, y, (k.block _ (by omega)).trans hr⟩, h.bel.trans (k.mono (by omega))⟩
theorem Du.drew {w W : World} {xso : Option Addr} {xsn xsc : Nat} {xo : Option Addr} {xn xc : Nat} {so : Option Addr} {sn sc : Nat} {ao : Option Addr} {an ac : Nat} (h : Du w W xso xsn xsc xo xn xc so sn sc ao an ac) : Du w W.drew xso xsn xsc xo xn xc so sn sc ao an ac := h.below (Below.refl _ W).drew (Nat.le_refl _)
theorem Du.all {w W : World} {xso : Option Addr} {xsn xsc : Nat} {xo : Option Addr} {xn xc : Nat} {so : Option Addr} {sn sc : Nat} {ao : Option Addr} {an ac : Nat} (h : Du w W xso xsn xsc xo xn xc so sn sc ao an ac) : W.cell? ⟨w.heap.size, 0, none⟩ = some (.slice xso xsn xsc) ∧ W.cell? ⟨w.heap.size, 1, none⟩ = some (.slice xo xn xc) ∧ W.cell? ⟨w.heap.size + 1, 0, none⟩ = some (.slice so sn sc) ∧ W.cell? ⟨w.heap.size + 1, 1, none⟩ = some (.slice ao an ac) ∧ Du w W xso xsn xsc xo xn xc so sn sc ao an ac := ⟨h.c0, h.c1, h.d0, h.d1, h⟩
theorem Du.set {w W : World} {xso : Option Addr} {xsn xsc : Nat} {xo : Option Addr} {xn xc : Nat} {so : Option Addr} {sn sc : Nat} {ao : Option Addr} {an ac : Nat} (h : Du w W xso xsn xsc xo xn xc so sn sc ao an ac) (u v : Value) : Du w ((W.setCell ⟨w.heap.size + 1 + 1, 0, none⟩ u).setCell ⟨w.heap.size + 1 + 1, 1, none⟩ v) xso xsn xsc xo xn xc so sn sc ao an ac := by
  have hs := h.sz
  obtain ⟨x, y, hr⟩ := h.r
  have hg := set2 W (w.heap.size + 1 + 1) 0 1 u v
  have a1 := heap_setCell_same W (w.heap.size + 1 + 1) 0 _ 25 u hr
  have a2 := heap_setCell_same _ (w.heap.size + 1 + 1) 1 _ 25 v a1
  refine ⟨hg.cell h.c0 (show some w.heap.size ≠ _ from some_ne (by omega)), hg.cell h.c1 (show some w.heap.size ≠ _ from some_ne (by omega)), hg.cell h.d0 (show some (w.heap.size + 1) ≠ _ from some_ne (by omega)), hg.cell h.d1 (show some (w.heap.size + 1) ≠ _ from some_ne (by omega)), ⟨u, v, by simpa using a2⟩, below_set2 _ _ _ _ h.bel (by omega) (Nat.le_refl _)⟩
theorem du_start (w : World) (xso : Option Addr) (xsn xsc : Nat) (xo : Option Addr) (xn xc : Nat) (so : Option Addr) (sn sc : Nat) (ao : Option Addr) (an ac : Nat) :
    Du w (((w.alloc (.cells #[.slice xso xsn xsc, .slice xo xn xc] 25)).alloc (.cells #[.slice so sn sc, .slice ao an ac] 25)).alloc (.cells #[.slice none 0 0, .slice none 0 0] 25)) xso xsn xsc xo xn xc so sn sc ao an ac := by
  have t := two_boxes w xso xo so ao xsn xsc xn xc sn sc an ac
  have b1 := allocNew ((w.alloc (.cells #[.slice xso xsn xsc, .slice xo xn xc] 25)).alloc (.cells #[.slice so sn sc, .slice ao an ac] 25)) (.cells #[.slice none 0 0, .slice none 0 0] 25)
  have k := box_below ((w.alloc (.cells #[.slice xso xsn xsc, .slice xo xn xc] 25)).alloc (.cells #[.slice so sn sc, .slice ao an ac] 25)) (.cells #[.slice none 0 0, .slice none 0 0] 25)
  have u := t.below k
  rw [World.size_alloc, World.size_alloc] at b1
  exact ⟨u.s0, u.a0, u.s1, u.a1, ⟨_, _, b1⟩, u.bel⟩

theorem drop_small {s : List Int} (h0 : mayF s = 0) (k : Nat) : 0 ≤ pr (s.drop k) ∧ pr (s.drop k) ≤ 4096 := by
  have hm : mayF (s.drop k) = 0 := by
    obtain ⟨h1, h2, h3⟩ := mayF_zero h0
    induction k with
    | zero => exact h0
    | succ k ih => have := mayF_tail ih; rwa [List.drop_drop] at this
  have := pr_small hm (s.drop k).length (Nat.le_refl _)
  rwa [List.take_length] at this

set_option maxHeartbeats 4000000 in
set_option maxRecDepth 20000 in
theorem cut_take (xso xo so ao : Option Addr) (xsn xsc xn xc sn sc an ac : Nat) (xs sh at' : List Int) (w : World) (hx : Rd w xo xn xs) (hs : Rd w so sn sh) (ha : Rd w ao an at') (h0 : mayF sh = 0) (hsn : 0 < sn) (hle : xn ≤ sn) (hl : ∀ k, k < sn → (nax (chL taA (axsOf sh) xs) k).len ≤ 1000000)
    (hp : mayF (lens (chL taA (axsOf sh) xs)) = 0 → ∀ p, p ∈ pls (chL taA (axsOf sh) xs) → p = -1 ∨ (0 ≤ p ∧ p < an)) :
    Calls Tryz.prog 62 #[.agg #[.slice xso xsn xsc, .slice xo xn xc], .agg #[.slice so sn sc, .slice ao an ac], .func (.func 63) #[] #[]] w fun e w' => ∃ o1 n1 c1 o2 n2 c2, e = .returned (.tuple #[.agg #[.slice o1 n1 c1, .slice o2 n2 c2], .int .i64 (mayF (lens (chL taA (axsOf sh) xs)))]) ∧ Ft 3 w' w.heap.size o1 n1 c1 (filS (lens (chL taA (axsOf sh) xs))) ∧ Ft 2 w' w.heap.size o2 n2 c2 (gthS at' (chL taA (axsOf sh) xs)) ∧ Below w.heap.size w w' := by
  have D0 := du_start w xso xsn xsc xo xn xc so sn sc ao an ac
  have hsl := hs.len
  have hsn8 : sn ≤ 8 := by rw [← hsl]; exact (mayF_zero h0).2.1
  have D1 := D0.drew
  generalize hW1 : (((w.alloc (.cells #[.slice xso xsn xsc, .slice xo xn xc] 25)).alloc (.cells #[.slice so sn sc, .slice ao an ac] 25)).alloc (.cells #[.slice none 0 0, .slice none 0 0] 25)).drew = W1 at D1
  have cAx := axesOf_any so sn sc sh W1 (hs.below D1.bel (Nat.le_refl _)) (by omega) (fun k hk => nth_small h0 (by omega)) (fun k hk => drop_small h0 k)
  have hG : W1.heap.size = w.heap.size + 1 + 1 + 1 := by rw [← hW1]; simp
  have cAl := fun w4 (k4 : Below (w.heap.size + 1 + 1 + 1) W1 w4) (X4 : Axs w4 (w.heap.size + 1 + 1 + 1) sn (axsOf sh)) => alongAxes_take W1 xso xo so ao xsn xsc xn xc sn sc an ac (w.heap.size + 1 + 1 + 1) sn sn xs at' (axsOf sh) w4 (hx.below D1.bel (Nat.le_refl _)) (ha.below D1.bel (Nat.le_refl _)) (by rw [hG]; exact k4) (by omega) X4 (by omega) hle (fun k hk => by
    rw [axsOf_nax (by omega)]
    have := nth_small h0 (k := k) (by omega)
    show (nth sh k).toNat ≤ 1000000
    omega) hl hp
  have tsn : decide (0 < sn) = true := by simpa using hsn
  have tsn2 : ¬ sn = 0 := by omega
  have tsn3 : ((sn : Int) == 0) = false := by simp; omega
  have hsz1 := D1.sz
  rw [hG] at cAx cAl
  subst hW1
  clear hl hp hsn hle h0 hsl
  obtain ⟨x0, x1, x2, x3, _⟩ := D0.all
  go_enter Tryz.func62, Tryz.ntmps62
  go_wp2
  clear x0 x1 x2 x3
  go_region_held3 (fun V => V.cell? ⟨w.heap.size, 0, none⟩ = some (.slice xso xsn xsc) ∧ V.cell? ⟨w.heap.size, 1, none⟩ = some (.slice xo xn xc) ∧ V.cell? ⟨w.heap.size + 1, 0, none⟩ = some (.slice so sn sc) ∧ V.cell? ⟨w.heap.size + 1, 1, none⟩ = some (.slice ao an ac) ∧ Du w V xso xsn xsc xo xn xc so sn sc ao an ac) (first | exact Du.all (by assumption) | exact Du.all (Du.drew (by assumption)) | exact Du.all (Du.set (by assumption) _ _))
    (first
      | (go_at_call 66; (with_reducible refine cAx.mono ?_); rintro e w4 ⟨rfl, X4, k4⟩; have D4 := D1.below k4 (Nat.le_of_eq hG))
      | (go_at_call 65; (with_reducible refine (cAl w4 k4 X4).mono ?_); rintro e w5 ⟨o1, n1, c1, o2, n2, c2, rfl, f1, f2, k5⟩; have D5 := D1.below k5 (Nat.le_of_eq hG); obtain ⟨u5, v5, hr5⟩ := D5.r; obtain ⟨z0, z1, z2, z3⟩ := box2 hr5))
  go_wp2
  (try simp only [Exit.inBlock, Exit.then])
  refine bodyPost_ret (v := .tuple #[.agg #[.slice o1 n1 c1, .slice o2 n2 c2], .int .i64 (mayF (lens (chL taA (axsOf sh) xs)))]) (by rw [results_cell_tmp rfl]; go_simp) rfl ?_
  exact ⟨o1, n1, c1, o2, n2, c2, rfl, (ft_set (w := w) f1 (by omega) _ _).mono (by omega), (ft_set (w := w) f2 (by omega) _ _).mono (by omega), below_set2 _ _ _ _ D5.bel (by omega) (Nat.le_refl _)⟩
end Go.Proofs.YtldhochafkcpiaaGreat
