
/- Contracts of package mold: axes that are changed by numbers. -/

import Derived.Test.YtpfdiammgdnhmaaGreatMH

namespace Go.Proofs.YtpfdiammgdnhmaaGreat

open Go.RowKit

set_option linter.unusedVariables false

/-- The axes, the first ones changed by the numbers. -/
def chL (F : Ax → Int → Ax) : List Ax → List Int → List Ax
  | axs, [] => axs
  | [], _ :: _ => []
  | a :: r, x :: xs => F a x :: chL F r xs
theorem chL_len (F : Ax → Int → Ax) : ∀ axs xs, (chL F axs xs).length = axs.length
  | axs, [] => by simp [chL]
  | [], _ :: _ => rfl
  | a :: r, x :: xs => by simp [chL, chL_len F r xs]
theorem chL_nil (F : Ax → Int → Ax) (axs : List Ax) : chL F axs [] = axs := by simp [chL]
theorem chL_step (F : Ax → Int → Ax) : ∀ (axs : List Ax) (xs : List Int) (k : Nat), k < axs.length → k < xs.length → chL F axs (xs.take (k + 1)) = (chL F axs (xs.take k)).set k (F (nax axs k) (nth xs k)) ∧ nax (chL F axs (xs.take k)) k = nax axs k
  | [], _, k, h, _ => by simp at h
  | a :: r, [], k, _, h => by simp at h
  | a :: r, x :: xs, 0, _, _ => by
    constructor
    · rw [show (x :: xs).take (0 + 1) = [x] by simp, show (x :: xs).take 0 = [] from rfl, chL_nil]; simp [chL, nax, nth]
    · rw [show (x :: xs).take 0 = [] from rfl, chL_nil]
  | a :: r, x :: xs, k + 1, h, h2 => by
    obtain ⟨i1, i2⟩ := chL_step F r xs k (by simpa using h) (by simpa using h2)
    rw [show (x :: xs).take (k + 1 + 1) = x :: xs.take (k + 1) by simp, show (x :: xs).take (k + 1) = x :: xs.take k by simp]
    constructor
    · simp only [chL]
      rw [i1]
      simp [nax, nth]
    · simp only [chL]
      simpa [nax] using i2

/-- Between two rounds of alongAxes. -/
structure Al (w0 w V : World) (g n : Nat) (axs : List Ax) (xso : Option Addr) (xsn xsc : Nat) (xo : Option Addr) (xn xc : Nat) (so : Option Addr) (sn sc : Nat) (ao : Option Addr) (an ac : Nat) : Prop where
  bel : Below w0.heap.size w0 V
  sz : w.heap.size + 3 ≤ V.heap.size
  c0 : V.heap[w.heap.size]? = some (.cells #[.slice xso xsn xsc, .slice xo xn xc] 25 (0, 0))
  d0 : V.heap[w.heap.size + 1]? = some (.cells #[.slice so sn sc, .slice ao an ac] 25 (0, 0))
  r : V.heap[w.heap.size + 1 + 1]? = some (.cells #[.slice none 0 0, .slice none 0 0] 25 (0, 0))
  ax : Axs V g n axs
theorem Al.below {w0 w V V' : World} {g n : Nat} {axs : List Ax} {xso : Option Addr} {xsn xsc : Nat} {xo : Option Addr} {xn xc : Nat} {so : Option Addr} {sn sc : Nat} {ao : Option Addr} {an ac : Nat} (h : Al w0 w V g n axs xso xsn xsc xo xn xc so sn sc ao an ac) (hb : Below V.heap.size V V') : Al w0 w V' g n axs xso xsn xsc xo xn xc so sn sc ao an ac :=
  ⟨h.bel.trans (hb.mono h.bel.size), Nat.le_trans h.sz hb.size, (hb.block _ (by have := h.sz; omega)).trans h.c0, (hb.block _ (by have := h.sz; omega)).trans h.d0, (hb.block _ (by have := h.sz; omega)).trans h.r, h.ax.below hb⟩
theorem Al.put {w0 w V : World} {g n k : Nat} {axs : List Ax} {xso : Option Addr} {xsn xsc : Nat} {xo : Option Addr} {xn xc : Nat} {so : Option Addr} {sn sc : Nat} {ao : Option Addr} {an ac : Nat} {a : Ax} {K : Nat} {cs : Array Value} {bs : List Nat} (h : Al w0 w V g n axs xso xsn xsc xo xn xc so sn sc ao an ac) (hk : k < n) (hg : g < w.heap.size) (hg0 : w0.heap.size ≤ g) (v : AxV V (fun b => b ≠ g) a K cs bs) :
    Al w0 w (put4 V g k (.int .i64 (a.len : Nat)) (.int .i64 (a.wid : Nat)) (.int .i64 (a.stp : Nat)) (.func (.func K) #[] cs)) g n (axs.set k a) xso xsn xsc xo xn xc so sn sc ao an ac := by
  have hgr := put4_grown V g k (.int .i64 (a.len : Nat)) (.int .i64 (a.wid : Nat)) (.int .i64 (a.stp : Nat)) (.func (.func K) #[] cs)
  have ne : ∀ b, w.heap.size ≤ b → some b ≠ some g := fun b hb e => by cases e; omega
  exact ⟨below_set4 _ _ _ _ _ _ _ _ h.bel hg0, Nat.le_trans h.sz hgr.size, (hgr.block _ (by have := h.sz; omega) (ne _ (by omega))).trans h.c0, (hgr.block _ (by have := h.sz; omega) (ne _ (by omega))).trans h.d0, (hgr.block _ (by have := h.sz; omega) (ne _ (by omega))).trans h.r, h.ax.put hk v⟩
theorem al_start {w0 w : World} {g n : Nat} {axs : List Ax} (xso : Option Addr) (xsn xsc : Nat) (xo : Option Addr) (xn xc : Nat) (so : Option Addr) (sn sc : Nat) (ao : Option Addr) (an ac : Nat) (hb : Below w0.heap.size w0 w) (ha : Axs w g n axs) :
    Al w0 w (((w.alloc (.cells #[.slice xso xsn xsc, .slice xo xn xc] 25)).alloc (.cells #[.slice so sn sc, .slice ao an ac] 25)).alloc (.cells #[.slice none 0 0, .slice none 0 0] 25)) g n axs xso xsn xsc xo xn xc so sn sc ao an ac := by
  have b0 := allocNew w (.cells #[.slice xso xsn xsc, .slice xo xn xc] 25)
  have b1 := allocNew (w.alloc (.cells #[.slice xso xsn xsc, .slice xo xn xc] 25)) (.cells #[.slice so sn sc, .slice ao an ac] 25)
  have b2 := allocNew ((w.alloc (.cells #[.slice xso xsn xsc, .slice xo xn xc] 25)).alloc (.cells #[.slice so sn sc, .slice ao an ac] 25)) (.cells #[.slice none 0 0, .slice none 0 0] 25)
  have k1 := box_below (w.alloc (.cells #[.slice xso xsn xsc, .slice xo xn xc] 25)) (.cells #[.slice so sn sc, .slice ao an ac] 25)
  have k2 := box_below ((w.alloc (.cells #[.slice xso xsn xsc, .slice xo xn xc] 25)).alloc (.cells #[.slice so sn sc, .slice ao an ac] 25)) (.cells #[.slice none 0 0, .slice none 0 0] 25)
  have k3 := three_below w (.cells #[.slice xso xsn xsc, .slice xo xn xc] 25) (.cells #[.slice so sn sc, .slice ao an ac] 25) (.cells #[.slice none 0 0, .slice none 0 0] 25)
  simp only [World.size_alloc] at b1 b2
  exact ⟨hb.trans (k3.mono hb.size), by simp, (k2.block _ (by simp; omega)).trans ((k1.block _ (by simp)).trans b0), (k2.block _ (by simp)).trans b1, b2, ha.below k3⟩

/-- What stands at one axis. -/
theorem Axs.at2 {W : World} {g n : Nat} {axs : List Ax} (h : Axs W g n axs) {k : Nat} (hk : k < n) : ∃ (K : Nat) (cs : Array Value) (bs : List Nat), W.cell? ⟨g, k * 4, none⟩ = some (.int .i64 ((nax axs k).len : Nat)) ∧ W.cell? ⟨g, k * 4 + 1, none⟩ = some (.int .i64 ((nax axs k).wid : Nat)) ∧ W.cell? ⟨g, k * 4 + 2, none⟩ = some (.int .i64 ((nax axs k).stp : Nat)) ∧ W.cell? ⟨g, k * 4 + 3, none⟩ = some (.func (.func K) #[] cs) ∧ Way W bs (nax axs k).wid (nax axs k).stp (nax axs k).f (.func (.func K) #[] cs) ∧ (∀ b, b ∈ bs → (∃ v, W.cell? ⟨b, 0, none⟩ = some v) ∧ b ≠ g) ∧ (nax axs k).wid ≤ 4096 ∧ (nax axs k).stp ≤ 4096 := by
  obtain ⟨cur, h1, h2, h3⟩ := h.row
  obtain ⟨K, cs, bs, a1, a2, a3, a4, a5, a6, a7, a8⟩ := h3 k hk
  exact ⟨K, cs, bs, (cell_of_row W g _ _ _ (0, 0) h1).trans (by simpa using a1), (cell_of_row W g _ _ _ (0, 0) h1).trans (by simpa using a2), (cell_of_row W g _ _ _ (0, 0) h1).trans (by simpa using a3), (cell_of_row W g _ _ _ (0, 0) h1).trans (by simpa using a4), a5, a6, a7, a8⟩
theorem Axs.slots {W : World} {g n : Nat} {axs : List Ax} (h : Axs W g n axs) {k : Nat} (hk : k < n) : ∃ x y z u, W.cell? ⟨g, k * 4, none⟩ = some x ∧ W.cell? ⟨g, k * 4 + 1, none⟩ = some y ∧ W.cell? ⟨g, k * 4 + 2, none⟩ = some z ∧ W.cell? ⟨g, k * 4 + 3, none⟩ = some u ∧ W.frozen? ⟨g, k * 4, none⟩ = false ∧ W.frozen? ⟨g, k * 4 + 1, none⟩ = false ∧ W.frozen? ⟨g, k * 4 + 2, none⟩ = false ∧ W.frozen? ⟨g, k * 4 + 3, none⟩ = false := by
  obtain ⟨cur, h1, h2, _⟩ := h.row
  exact slot4 h1 h2 hk

theorem tuA_bd {a : Ax} {n : Int} (h1 : a.wid ≤ 4096) (h2 : a.stp ≤ 4096) : (tuA a n).wid ≤ 4096 ∧ (tuA a n).stp ≤ 4096 := by
  unfold tuA; split
  · exact ⟨h1, h2⟩
  · exact ⟨h1, h2⟩
theorem taA_bd {a : Ax} {n : Int} (h1 : a.wid ≤ 4096) (h2 : a.stp ≤ 4096) : (taA a n).wid ≤ 4096 ∧ (taA a n).stp ≤ 4096 := ⟨h1, h2⟩
theorem drA_bd {a : Ax} {n : Int} (h1 : a.wid ≤ 4096) (h2 : a.stp ≤ 4096) : (drA a n).wid ≤ 4096 ∧ (drA a n).stp ≤ 4096 := ⟨h1, h2⟩

set_option maxHeartbeats 4000000 in
set_option maxRecDepth 20000 in
theorem alongAxes_turn (w0 : World) (xso xo so ao : Option Addr) (xsn xsc xn xc sn sc an ac g n gc : Nat) (xs at' : List Int) (axs : List Ax) (w : World) (hx : Rd w0 xo xn xs) (ha : Rd w0 ao an at') (hb : Below w0.heap.size w0 w) (hg : w0.heap.size ≤ g) (hax : Axs w g n axs) (hn : n ≤ 5000) (hle : xn ≤ n) (hl0 : ∀ k, k < n → (nax axs k).len ≤ 1000000) (hl : ∀ k, k < n → (nax (chL tuA axs xs) k).len ≤ 1000000)
    (hp : mayF (lens (chL tuA axs xs)) = 0 → ∀ p, p ∈ pls (chL tuA axs xs) → p = -1 ∨ (0 ≤ p ∧ p < an)) :
    Calls Tryz.prog 80 #[.agg #[.slice xso xsn xsc, .slice xo xn xc], .agg #[.slice so sn sc, .slice ao an ac], .slice (some ⟨g, 0, none⟩) n gc, .func (.func 81) #[] #[]] w fun e w' => ∃ o1 n1 c1 o2 n2 c2, e = .returned (.tuple #[.agg #[.slice o1 n1 c1, .slice o2 n2 c2], .int .i64 (mayF (lens (chL tuA axs xs)))]) ∧ Ft 3 w' w0.heap.size o1 n1 c1 (filS (lens (chL tuA axs xs))) ∧ Ft 2 w' w0.heap.size o2 n2 c2 (gthS at' (chL tuA axs xs)) ∧ Below w0.heap.size w0 w' := by
  have hgl := hax.lt
  have A0 := al_start xso xsn xsc xo xn xc so sn sc ao an ac hb hax
  have HXL : Hid (xs.length = xn) := hx.len
  have HAL : Hid (axs.length = n) := hax.len
  have HL : Hid (∀ k, k < n → (nax (chL tuA axs xs) k).len ≤ 1000000) := hl
  have HL0 : Hid (∀ k, k < n → (nax axs k).len ≤ 1000000) := hl0
  have HP : Hid (mayF (lens (chL tuA axs xs)) = 0 → ∀ p, p ∈ pls (chL tuA axs xs) → p = -1 ∨ (0 ≤ p ∧ p < an)) := hp
  have t0 : decide (n < xn) = false := by simp; omega
  clear hax hl hp hl0
  obtain ⟨x0, x1, _, _⟩ := box2 A0.c0
  go_enter Tryz.func80, Tryz.ntmps80
  go_wp2
  clear x0 x1
  generalize (((w.alloc (.cells #[.slice xso xsn xsc, .slice xo xn xc] 25)).alloc (.cells #[.slice so sn sc, .slice ao an ac] 25)).alloc (.cells #[.slice none 0 0, .slice none 0 0] 25)) = W0 at *
  go_loopw [22] (fun i V => ∃ k : Nat, k ≤ xn ∧ i = .int .i64 (k : Nat) ∧ Al w0 w V g n (chL tuA axs (xs.take k)) xso xsn xsc xo xn xc so sn sc ao an ac) (fun i _ => xn - (intOf i).toNat)
  case atStart => exact ⟨0, Nat.zero_le _, rfl, by rw [List.take_zero, chL_nil]; exact A0⟩
  case round =>
    obtain ⟨k, hk, rfl, A⟩ := hrel
    clear A0
    by_cases hlt : k < xn
    · obtain ⟨e1, e2⟩ := chL_step tuA axs xs k (by rw [HAL.out]; omega) (by rw [HXL.out]; exact hlt)
      have hkn : k < n := by omega
      obtain ⟨b, off, rfl, hbb, hc⟩ := (hx.below A.bel (Nat.le_refl _)).cells (by omega)
      have c1 := hc k hlt
      have hnum := hx.num k hlt
      obtain ⟨K, cs, bs, y0, y1, y2, y3, hway, hbs, hwd, hst⟩ := A.ax.at2 hkn
      rw [e2] at y0 y1 y2 hway hwd hst
      have hcall := turn_any (nax axs k) (nth xs k) K cs bs wr hwd hst (HL0.out k hkn) hnum.1 hnum.2 hway (fun b m => (hbs b m).1)
      have HE : Hid (chL tuA axs (xs.take (k + 1)) = (chL tuA axs (xs.take k)).set k (tuA (nax axs k) (nth xs k))) := e1
      have HB : Hid (∀ b, b ∈ bs → (∃ v, wr.cell? ⟨b, 0, none⟩ = some v) ∧ b ≠ g) := hbs
      have HWD : Hid ((tuA (nax axs k) (nth xs k)).wid ≤ 4096 ∧ (tuA (nax axs k) (nth xs k)).stp ≤ 4096) := tuA_bd hwd hst
      have bk : (k : Int) < (n : Int) := by omega
      clear hc e1 e2 hway hbs hwd hst hnum
      go_wp2_with (go_at_call 81; (with_reducible refine hcall.mono ?_); rintro e w3 ⟨v, rfl, ⟨K', cs', bs', rfl, way', out'⟩, b3⟩; have A3 := A.below b3; obtain ⟨s0, s1, s2, s3, z0, z1, z2, z3, f0, f1, f2, f3⟩ := A3.ax.slots hkn)
      go_roundw
      case rel =>
        refine ⟨k + 1, by omega, by go_num, ?_⟩
        rw [HE.out]
        refine A3.put hkn hgl hg (bs := bs') ⟨way', fun b m => ?_, HWD.out.1, HWD.out.2⟩
        refine ⟨(out' b m).1, ?_⟩
        rcases (out' b m).2 with h | h
        · exact (HB.out b h).2
        · have := A.ax.lt; omega
      case measure => simp [intOf]; omega
    · obtain rfl : xn = k := by omega
      rw [List.take_of_length_le (by rw [HXL.out]; exact Nat.le_refl _)] at A
      have hcall := gather_any so ao (some ⟨g, 0, none⟩) sn sc an ac n gc at' (chL tuA axs xs) wr (ha.below A.bel (Nat.le_refl _)) A.ax.ax hn HL.out HP.out
      obtain ⟨x0, x1, _, _⟩ := box2 A.d0
      go_wp2_with (go_at_call 61; (with_reducible refine hcall.mono ?_); rintro e w3 ⟨o1, n1, c1, o2, n2, c2, rfl, f1, f2, b3⟩; have A3 := A.below b3; obtain ⟨z0, z1, z2, z3⟩ := box2 A3.r)
      (try simp only [Exit.inBlock, Exit.then])
      refine bodyPost_ret (v := .tuple #[.agg #[.slice o1 n1 c1, .slice o2 n2 c2], .int .i64 (mayF (lens (chL tuA axs xs)))]) (by rw [results_cell_tmp rfl]; go_simp) rfl ?_
      have hs := A.sz
      have hbz := A.bel.size
      have hb0 := hb.size
      exact ⟨o1, n1, c1, o2, n2, c2, rfl, (ft_set (w := w) f1 (by omega) _ _).mono (by omega), (ft_set (w := w) f2 (by omega) _ _).mono (by omega), below_set2 _ _ _ _ A3.bel (by omega) (Nat.le_refl _)⟩

set_option maxHeartbeats 4000000 in
set_option maxRecDepth 20000 in
theorem alongAxes_take (w0 : World) (xso xo so ao : Option Addr) (xsn xsc xn xc sn sc an ac g n gc : Nat) (xs at' : List Int) (axs : List Ax) (w : World) (hx : Rd w0 xo xn xs) (ha : Rd w0 ao an at') (hb : Below w0.heap.size w0 w) (hg : w0.heap.size ≤ g) (hax : Axs w g n axs) (hn : n ≤ 5000) (hle : xn ≤ n) (hl0 : ∀ k, k < n → (nax axs k).len ≤ 1000000) (hl : ∀ k, k < n → (nax (chL taA axs xs) k).len ≤ 1000000)
    (hp : mayF (lens (chL taA axs xs)) = 0 → ∀ p, p ∈ pls (chL taA axs xs) → p = -1 ∨ (0 ≤ p ∧ p < an)) :
    Calls Tryz.prog 80 #[.agg #[.slice xso xsn xsc, .slice xo xn xc], .agg #[.slice so sn sc, .slice ao an ac], .slice (some ⟨g, 0, none⟩) n gc, .func (.func 78) #[] #[]] w fun e w' => ∃ o1 n1 c1 o2 n2 c2, e = .returned (.tuple #[.agg #[.slice o1 n1 c1, .slice o2 n2 c2], .int .i64 (mayF (lens (chL taA axs xs)))]) ∧ Ft 3 w' w0.heap.size o1 n1 c1 (filS (lens (chL taA axs xs))) ∧ Ft 2 w' w0.heap.size o2 n2 c2 (gthS at' (chL taA axs xs)) ∧ Below w0.heap.size w0 w' := by
  have hgl := hax.lt
  have A0 := al_start xso xsn xsc xo xn xc so sn sc ao an ac hb hax
  have HXL : Hid (xs.length = xn) := hx.len
  have HAL : Hid (axs.length = n) := hax.len
  have HL : Hid (∀ k, k < n → (nax (chL taA axs xs) k).len ≤ 1000000) := hl
  have HL0 : Hid (∀ k, k < n → (nax axs k).len ≤ 1000000) := hl0
  have HP : Hid (mayF (lens (chL taA axs xs)) = 0 → ∀ p, p ∈ pls (chL taA axs xs) → p = -1 ∨ (0 ≤ p ∧ p < an)) := hp
  have t0 : decide (n < xn) = false := by simp; omega
  clear hax hl hp hl0
  obtain ⟨x0, x1, _, _⟩ := box2 A0.c0
  go_enter Tryz.func80, Tryz.ntmps80
  go_wp2
  clear x0 x1
  generalize (((w.alloc (.cells #[.slice xso xsn xsc, .slice xo xn xc] 25)).alloc (.cells #[.slice so sn sc, .slice ao an ac] 25)).alloc (.cells #[.slice none 0 0, .slice none 0 0] 25)) = W0 at *
  go_loopw [22] (fun i V => ∃ k : Nat, k ≤ xn ∧ i = .int .i64 (k : Nat) ∧ Al w0 w V g n (chL taA axs (xs.take k)) xso xsn xsc xo xn xc so sn sc ao an ac) (fun i _ => xn - (intOf i).toNat)
  case atStart => exact ⟨0, Nat.zero_le _, rfl, by rw [List.take_zero, chL_nil]; exact A0⟩
  case round =>
    obtain ⟨k, hk, rfl, A⟩ := hrel
    clear A0
    by_cases hlt : k < xn
    · obtain ⟨e1, e2⟩ := chL_step taA axs xs k (by rw [HAL.out]; omega) (by rw [HXL.out]; exact hlt)
      have hkn : k < n := by omega
      obtain ⟨b, off, rfl, hbb, hc⟩ := (hx.below A.bel (Nat.le_refl _)).cells (by omega)
      have c1 := hc k hlt
      have hnum := hx.num k hlt
      obtain ⟨K, cs, bs, y0, y1, y2, y3, hway, hbs, hwd, hst⟩ := A.ax.at2 hkn
      rw [e2] at y0 y1 y2 hway hwd hst
      have hcall := take_any (nax axs k) (nth xs k) K cs bs wr hwd hst (HL0.out k hkn) hnum.1 hnum.2 hway (fun b m => (hbs b m).1)
      have HE : Hid (chL taA axs (xs.take (k + 1)) = (chL taA axs (xs.take k)).set k (taA (nax axs k) (nth xs k))) := e1
      have HB : Hid (∀ b, b ∈ bs → (∃ v, wr.cell? ⟨b, 0, none⟩ = some v) ∧ b ≠ g) := hbs
      have HWD : Hid ((taA (nax axs k) (nth xs k)).wid ≤ 4096 ∧ (taA (nax axs k) (nth xs k)).stp ≤ 4096) := taA_bd hwd hst
      have bk : (k : Int) < (n : Int) := by omega
      clear hc e1 e2 hway hbs hwd hst hnum
      go_wp2_with (go_at_call 78; (with_reducible refine hcall.mono ?_); rintro e w3 ⟨v, rfl, ⟨K', cs', bs', rfl, way', out'⟩, b3⟩; have A3 := A.below b3; obtain ⟨s0, s1, s2, s3, z0, z1, z2, z3, f0, f1, f2, f3⟩ := A3.ax.slots hkn)
      go_roundw
      case rel =>
        refine ⟨k + 1, by omega, by go_num, ?_⟩
        rw [HE.out]
        refine A3.put hkn hgl hg (bs := bs') ⟨way', fun b m => ?_, HWD.out.1, HWD.out.2⟩
        refine ⟨(out' b m).1, ?_⟩
        rcases (out' b m).2 with h | h
        · exact (HB.out b h).2
        · have := A.ax.lt; omega
      case measure => simp [intOf]; omega
    · obtain rfl : xn = k := by omega
      rw [List.take_of_length_le (by rw [HXL.out]; exact Nat.le_refl _)] at A
      have hcall := gather_any so ao (some ⟨g, 0, none⟩) sn sc an ac n gc at' (chL taA axs xs) wr (ha.below A.bel (Nat.le_refl _)) A.ax.ax hn HL.out HP.out
      obtain ⟨x0, x1, _, _⟩ := box2 A.d0
      go_wp2_with (go_at_call 61; (with_reducible refine hcall.mono ?_); rintro e w3 ⟨o1, n1, c1, o2, n2, c2, rfl, f1, f2, b3⟩; have A3 := A.below b3; obtain ⟨z0, z1, z2, z3⟩ := box2 A3.r)
      (try simp only [Exit.inBlock, Exit.then])
      refine bodyPost_ret (v := .tuple #[.agg #[.slice o1 n1 c1, .slice o2 n2 c2], .int .i64 (mayF (lens (chL taA axs xs)))]) (by rw [results_cell_tmp rfl]; go_simp) rfl ?_
      have hs := A.sz
      have hbz := A.bel.size
      have hb0 := hb.size
      exact ⟨o1, n1, c1, o2, n2, c2, rfl, (ft_set (w := w) f1 (by omega) _ _).mono (by omega), (ft_set (w := w) f2 (by omega) _ _).mono (by omega), below_set2 _ _ _ _ A3.bel (by omega) (Nat.le_refl _)⟩
end Go.Proofs.YtpfdiammgdnhmaaGreat
