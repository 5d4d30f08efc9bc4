
/- Contract of package mold: an array laid into a shape whose items are its own. -/

import Derived.Test.YtldhochafkcpiaaGreatMJ
import Derived.Test.YtldhochafkcpiaaGreatA10
import Derived.Test.YtldhochafkcpiaaGreatC8
import Derived.Test.YtldhochafkcpiaaGreatC1

namespace Go.Proofs.YtldhochafkcpiaaGreat

open Go.RowKit

set_option linter.unusedVariables false

/-- The first k and the last k have changed places. -/
def rvK (axs : List Ax) (k : Nat) : List Ax := (List.range axs.length).map fun t => if t < k ∨ axs.length - k ≤ t then nax axs (axs.length - 1 - t) else nax axs t
theorem rvK_len (axs : List Ax) (k : Nat) : (rvK axs k).length = axs.length := by simp [rvK]
theorem rvK_nax {axs : List Ax} {k t : Nat} (h : t < axs.length) : nax (rvK axs k) t = if t < k ∨ axs.length - k ≤ t then nax axs (axs.length - 1 - t) else nax axs t := by
  unfold nax rvK
  rw [List.getD_eq_getElem?_getD, List.getElem?_map, List.getElem?_range h]
  rfl
theorem ext_nax {a b : List Ax} (hl : a.length = b.length) (h : ∀ k, k < a.length → nax a k = nax b k) : a = b := by
  apply List.ext_getElem hl
  intro i h1 h2
  have := h i h1
  rwa [nax_lt h1, nax_lt h2] at this
theorem rvK_zero (axs : List Ax) : rvK axs 0 = axs := ext_nax (rvK_len _ _) (fun k hk => by
  rw [rvK_len] at hk
  rw [rvK_nax hk, if_neg (by omega)])
theorem nax_rev {axs : List Ax} {t : Nat} (h : t < axs.length) : nax axs.reverse t = nax axs (axs.length - 1 - t) := by
  rw [nax_lt (by simpa using h), nax_lt (show axs.length - 1 - t < axs.length by omega), List.getElem_reverse]
theorem rvK_all {axs : List Ax} {k : Nat} (h : axs.length ≤ k + 1 + k) : rvK axs k = axs.reverse := ext_nax (by rw [rvK_len]; simp) (fun t ht => by
  rw [rvK_len] at ht
  rw [rvK_nax ht, nax_rev ht]
  split
  · rfl
  · congr 1
    omega)
theorem nax_set {l : List Ax} {j t : Nat} {a : Ax} (hj : j < l.length) : nax (l.set j a) t = if t = j then a else nax l t := by
  unfold nax
  by_cases h : t = j
  · subst h; simp [hj]
  · rw [if_neg h, List.getD_eq_getElem?_getD, List.getD_eq_getElem?_getD, List.getElem?_set_ne (fun e => h e.symm)]
theorem rvK_step {axs : List Ax} {k j : Nat} (h : k < j) (hj : j + k + 1 = axs.length) : ((rvK axs k).set k (nax axs j)).set j (nax axs k) = rvK axs (k + 1) := ext_nax (by simp [rvK_len]) (fun t ht => by
  simp only [List.length_set, rvK_len] at ht
  rw [nax_set (by simp [rvK_len]; omega), nax_set (by rw [rvK_len]; omega), rvK_nax ht, rvK_nax ht]
  by_cases c1 : t = j
  · rw [if_pos c1, if_pos (by omega), c1]; congr 1; omega
  · rw [if_neg c1]
    by_cases c2 : t = k
    · rw [if_pos c2, if_pos (by omega), c2]; congr 1; omega
    · rw [if_neg c2]
      by_cases c3 : t < k ∨ axs.length - k ≤ t
      · rw [if_pos c3, if_pos (by omega)]
      · rw [if_neg c3, if_neg (by omega)])
theorem rvK_mid {axs : List Ax} {k t : Nat} (h : k ≤ t) (h2 : t + k < axs.length) : nax (rvK axs k) t = nax axs t := by
  rw [rvK_nax (by omega), if_neg (by omega)]

set_option maxHeartbeats 4000000 in
set_option maxRecDepth 20000 in
theorem reverseX_any (g n gc : Nat) (axs : List Ax) (w : World) (hax : Axs w g n axs) (hn : n ≤ 5000) :
    Calls Tryz.prog 74 #[.slice (some ⟨g, 0, none⟩) n gc] w fun e w' => (∃ v, e = .returned v) ∧ Axs w' g n axs.reverse ∧ ∀ B, B ≤ g → Below B w w' := by
  have HAL : Hid (axs.length = n) := hax.len
  have w0 := wr (z := (n : Int) - 1) (by omega) (by omega)
  go_enter Tryz.func74, Tryz.ntmps74
  go_wp2
  go_loopw [2, 3] (fun i j V => ∃ k : Nat, k ≤ n ∧ i = .int .i64 (k : Nat) ∧ j = .int .i64 ((n : Int) - 1 - (k : Int)) ∧ Axs V g n (rvK axs k) ∧ (2 * k ≤ n + 1) ∧ ∀ B, B ≤ g → Below B w V) (fun i _ _ => n - (intOf i).toNat)
  case atStart => exact ⟨0, Nat.zero_le _, rfl, by simp, by rw [rvK_zero]; exact hax, by omega, fun B _ => Below.refl _ _⟩
  case round =>
    obtain ⟨k, hk, rfl, rfl, A, h2k, hB⟩ := hrel
    by_cases hlt : 2 * k + 1 < n
    · obtain ⟨j, hj⟩ : ∃ j : Nat, j + k + 1 = n := ⟨n - 1 - k, by omega⟩
      have ej : (n : Int) - 1 - (k : Int) = (j : Int) := by omega
      obtain ⟨K1, cs1, bs1, x0, x1, x2, x3, way1, out1, wd1, st1⟩ := A.at2 (k := k) (by omega)
      obtain ⟨K2, cs2, bs2, y0, y1, y2, y3, way2, out2, wd2, st2⟩ := A.at2 (k := j) (by omega)
      rw [rvK_mid (by omega) (by rw [HAL.out]; omega)] at x0 x1 x2 way1 wd1 st1
      rw [rvK_mid (by omega) (by rw [HAL.out]; omega)] at y0 y1 y2 way2 wd2 st2
      obtain ⟨s0, s1, s2, s3, _, _, _, _, f0, f1, f2, f3⟩ := A.slots (k := k) (by omega)
      have P1 := A.put (k := k) (by omega) (a := nax axs j) (bs := bs2) ⟨way2, out2, wd2, st2⟩
      obtain ⟨q0, q1, q2, q3, p0, p1, p2, p3, e0, e1, e2, e3⟩ := P1.slots (k := j) (by omega)
      have keep : ∀ b, b < wr.heap.size → b ≠ g → (put4 wr g k (.int .i64 ((nax axs j).len : Nat)) (.int .i64 ((nax axs j).wid : Nat)) (.int .i64 ((nax axs j).stp : Nat)) (.func (.func K2) #[] cs2)).heap[b]? = wr.heap[b]? := fun b hb hne => (put4_grown wr g k _ _ _ _).block b hb (some_ne hne)
      have P2 := P1.put (k := j) (by omega) (a := nax axs k) (bs := bs1) ⟨way1.keep (fun b m => by obtain ⟨⟨v, hv⟩, hne⟩ := out1 b m; exact keep b (World.block_lt_of_cell? wr _ hv) hne), fun b m => by obtain ⟨⟨v, hv⟩, hne⟩ := out1 b m; exact ⟨⟨v, (cell_same (keep b (World.block_lt_of_cell? wr _ hv) hne) 0).trans hv⟩, hne⟩, wd1, st1⟩
      rw [rvK_step (by omega) (by rw [HAL.out]; exact hj)] at P2
      rw [ej]
      have t0 : decide ((k : Int) < (j : Int)) = true := by simp; omega
      have wk : IntKind.i64.wrap ((k : Int) + 1) = (k : Int) + 1 := wrapIn _ (by omega)
      have wj : IntKind.i64.wrap ((j : Int) - 1) = (j : Int) - 1 := wrapIn _ (by omega)
      have bk : (k : Int) < (n : Int) := by omega
      have bj : (j : Int) < (n : Int) := by omega
      have HB : Hid (∀ B, B ≤ g → Below B w wr) := hB
      clear hB way1 way2 out1 out2 keep P1
      unfold put4 at p0 p1 p2 p3 e0 e1 e2 e3
      go_wp2
      go_region
      all_goals
        go_wp2
        go_roundw
        case rel =>
          have P3 := P2.below (Below.refl _ _).drew
          exact ⟨k + 1, by omega, by go_num, by rw [show (n : Int) - 1 - ((k + 1 : Nat) : Int) = (j : Int) - 1 by omega], P3, by omega, fun B hg => (below_set4 _ _ _ _ _ _ _ _ (below_set4 _ _ _ _ _ _ _ _ (HB.out B hg) hg) hg).drew⟩
        case measure => simp [intOf]; omega
    · have hlt' : n ≤ k + 1 + k := by omega
      have t0 : decide ((k : Int) < (n : Int) - 1 - (k : Int)) = false := by simp; omega
      rw [rvK_all (by rw [HAL.out]; exact hlt')] at A
      go_wp2
      go_end0
      exact ⟨⟨_, rfl⟩, A, hB⟩

/-- One array in its box, and a box for the answer. -/
structure Un (w W : World) (so : Option Addr) (sn sc : Nat) (ao : Option Addr) (an ac : Nat) : Prop where
  c0 : W.cell? ⟨w.heap.size, 0, none⟩ = some (.slice so sn sc)
  c1 : W.cell? ⟨w.heap.size, 1, none⟩ = some (.slice ao an ac)
  r : ∃ x y, W.heap[w.heap.size + 1]? = some (.cells #[x, y] 25 (0, 0))
  bel : Below w.heap.size w W
theorem Un.sz {w W : World} {so : Option Addr} {sn sc : Nat} {ao : Option Addr} {an ac : Nat} (h : Un w W so sn sc ao an ac) : w.heap.size + 2 ≤ W.heap.size := by
  obtain ⟨x, y, hr⟩ := h.r
  have := (Array.getElem?_eq_some_iff.1 hr).1
  omega
theorem Un.below {w W W' : World} {so : Option Addr} {sn sc : Nat} {ao : Option Addr} {an ac B : Nat} (h : Un w W so sn sc ao an ac) (k : Below B W W') (hB : w.heap.size + 2 ≤ B) : Un w W' so sn sc ao an ac := by
  obtain ⟨x, y, hr⟩ := h.r
  exact ⟨(k.cell (p := ⟨w.heap.size, 0, none⟩) (show w.heap.size < B by omega)).trans h.c0, (k.cell (p := ⟨w.heap.size, 1, none⟩) (show w.heap.size < B by omega)).trans h.c1, ⟨x, y, (k.block _ (by omega)).trans hr⟩, h.bel.trans (k.mono (by omega))⟩
theorem un_start (w : World) (so : Option Addr) (sn sc : Nat) (ao : Option Addr) (an ac : Nat) :
    Un w ((w.alloc (.cells #[.slice so sn sc, .slice ao an ac] 25)).alloc (.cells #[.slice none 0 0, .slice none 0 0] 25)) so sn sc ao an ac := by
  have g := ga_start w so sn sc ao an ac
  exact ⟨g.c0, g.c1, ⟨_, _, g.r⟩, g.bel⟩

set_option maxHeartbeats 4000000 in
set_option maxRecDepth 20000 in
theorem transpose_any (so ao : Option Addr) (sn sc an ac : Nat) (sh at' : List Int) (w : World) (hs : Rd w so sn sh) (ha : Rd w ao an at') (h0 : mayF sh = 0)
    (hp : mayF (lens (axsOf sh).reverse) = 0 → ∀ p, p ∈ pls (axsOf sh).reverse → p = -1 ∨ (0 ≤ p ∧ p < an)) :
    Calls Tryz.prog 44 #[.agg #[.slice so sn sc, .slice ao an ac]] w fun e w' => ∃ o1 n1 c1 o2 n2 c2, e = .returned (.tuple #[.agg #[.slice o1 n1 c1, .slice o2 n2 c2], .int .i64 (mayF (lens (axsOf sh).reverse))]) ∧ Ft 3 w' w.heap.size o1 n1 c1 (filS (lens (axsOf sh).reverse)) ∧ Ft 2 w' w.heap.size o2 n2 c2 (gthS at' (axsOf sh).reverse) ∧ Below w.heap.size w w' := by
  have U0 := un_start w so sn sc ao an ac
  have hsl := hs.len
  have hsn8 : sn ≤ 8 := by rw [← hsl]; exact (mayF_zero h0).2.1
  have cAx := axesOf_any so sn sc sh _ (hs.below U0.bel (Nat.le_refl _)) (by omega) (fun k hk => nth_small h0 (by omega)) (fun k hk => drop_small h0 k)
  have hsz : ((w.alloc (.cells #[.slice so sn sc, .slice ao an ac] 25)).alloc (.cells #[.slice none 0 0, .slice none 0 0] 25)).heap.size = w.heap.size + 1 + 1 := by simp
  rw [hsz] at cAx
  have HL : Hid (∀ k, k < sn → (nax (axsOf sh).reverse k).len ≤ 1000000) := fun k hk => by
    rw [nax_rev (by rw [axsOf_len]; omega), axsOf_nax (by rw [axsOf_len]; omega)]
    have := nth_small h0 (k := (axsOf sh).length - 1 - k) (by rw [axsOf_len]; omega)
    show (nth sh ((axsOf sh).length - 1 - k)).toNat ≤ 1000000
    omega
  have HP : Hid (mayF (lens (axsOf sh).reverse) = 0 → ∀ p, p ∈ pls (axsOf sh).reverse → p = -1 ∨ (0 ≤ p ∧ p < an)) := hp
  clear hp h0 hsl
  obtain ⟨x0, x1, _, _⟩ := U0
  go_enter Tryz.func44, Tryz.ntmps44
  go_wp2_with (first
    | (go_at_call 66; (with_reducible refine cAx.mono ?_); rintro e w4 ⟨rfl, X4, k4⟩)
    | (go_at_call 74; (with_reducible refine (reverseX_any _ _ _ _ w4 X4 (by omega)).mono ?_); rintro e w5 ⟨⟨v5, rfl⟩, X5, k5⟩; have U5 := ((un_start w so sn sc ao an ac).below k4 (by omega)).below (k5 (w.heap.size + 1 + 1) (Nat.le_refl _)) (Nat.le_refl _); obtain ⟨y0, y1, _, _⟩ := U5)
    | (go_at_call 68; (with_reducible refine (gather_any so ao (some ⟨w.heap.size + 1 + 1, 0, none⟩) sn sc an ac sn sn at' _ w5 (ha.below (((un_start w so sn sc ao an ac).below k4 (by omega)).below (k5 (w.heap.size + 1 + 1) (Nat.le_refl _)) (Nat.le_refl _)).bel (Nat.le_refl _)) X5.ax (by omega) HL.out HP.out).mono ?_); rintro e w6 ⟨o1, n1, c1, o2, n2, c2, rfl, f1, f2, k6⟩; have U5' := ((un_start w so sn sc ao an ac).below k4 (by omega)).below (k5 (w.heap.size + 1 + 1) (Nat.le_refl _)) (Nat.le_refl _); have hz5 := U5'.sz; have U6 := U5'.below k6 hz5; obtain ⟨u6, v6, hr6⟩ := U6.r; obtain ⟨z0, z1, z2, z3⟩ := box2 hr6))
  (try simp only [Exit.inBlock, Exit.then])
  refine bodyPost_ret (v := .tuple #[.agg #[.slice o1 n1 c1, .slice o2 n2 c2], .int .i64 (mayF (lens (axsOf sh).reverse))]) (by rw [results_cell_tmp rfl]; go_simp) rfl ?_
  exact ⟨o1, n1, c1, o2, n2, c2, rfl, (ft_set (w := w) f1 (by omega) _ _).mono (by omega), (ft_set (w := w) f2 (by omega) _ _).mono (by omega), below_set2 _ _ _ _ U6.bel (by omega) (Nat.le_refl _)⟩
end Go.Proofs.YtldhochafkcpiaaGreat



namespace Go.Proofs.YtldhochafkcpiaaGreat

open Go.RowKit

set_option linter.unusedVariables false

/-- A row of m cells whose first k hold one number. -/
structure FlI (W : World) (g m k : Nat) (v : Int) : Prop where
  row : ∃ cur : List Value, W.heap[g]? = some (.cells cur.toArray 3 (0, 0)) ∧ cur.length = m ∧ ∀ j, j < k → cur[j]? = some (.int .i64 v)

theorem FlI.cell {W : World} {g m k : Nat} {v : Int} (h : FlI W g m k v) {j : Nat} (hj : j < k) : W.cell? ⟨g, j, none⟩ = some (.int .i64 v) := by
  obtain ⟨cur, h1, h2, h3⟩ := h.row
  rw [cell_of_row W g j _ _ (0, 0) h1]
  simpa using h3 j hj

theorem FlI.less {W : World} {g m k k' : Nat} {v : Int} (h : FlI W g m k v) (hk : k' ≤ k) : FlI W g m k' v := by
  obtain ⟨cur, h1, h2, h3⟩ := h.row
  exact ⟨cur, h1, h2, fun j hj => h3 j (by omega)⟩
theorem fill_srcI {W : World} {g m k cc : Nat} {v : Int} (h : FlI W g m k v) (hc : cc ≤ k) {j : Nat} {u : Value} (hu : (List.replicate cc (Value.int .i64 v))[j]? = some u) : W.cell? ((⟨g, 0, none⟩ : Addr).add j) = some u := by
  have hj : j < cc := by have := (List.getElem?_eq_some_iff.1 hu).1; simpa using this
  rw [List.getElem?_replicate_of_lt hj] at hu
  cases hu
  rw [add_at, Nat.zero_add]
  exact h.cell (by omega)
theorem infoIr : (Tryz.prog.info? 3).map (·.size) = some 1 := by kernel_rfl
theorem infoI3r : (Tryz.prog.info? 3).map (fun i => (i.zero, i.size, i.bytes)) = some (some (.int .i64 0), 1, 8) := by kernel_rfl

/-- A copy into a row of one's own, when it is run. -/
theorem run_spliceI {w : World} (ty : TypeId) (dp sp : Option Addr) (dLen dCap sLen sCap g off : Nat) (cur : List Value) (hg : w.heap[g]? = some (.cells cur.toArray 3 (0, 0))) (cs : List Value) (hn : cs.length = Nat.min sLen dLen)
    (hpos : 0 < cs.length → dp = some ⟨g, off, none⟩ ∧ ∃ ad, sp = some ad ∧ ∀ j v, cs[j]? = some v → w.cell? (ad.add j) = some v) (hfit : off + cs.length ≤ cur.length) (h1 : ∀ v ∈ cs, v.oneCell' = true) (B : Nat) (w0 : World) (hb : Below B w0 w) (hBg : B ≤ g) :
    ∃ w', (Builtin.copy_ #[23, 23] ty #[.slice dp dLen dCap, .slice sp sLen sCap]).run Tryz.prog w = .ok (goInt cs.length) w' ∧ w'.heap[g]? = some (.cells (splice cur off cs).toArray 3 (0, 0)) ∧ Below B w0 w' := by
  by_cases h0 : cs.length = 0
  · obtain rfl : cs = [] := List.eq_nil_of_length_eq_zero h0
    exact ⟨w, run_copy_none w _ _ ty 3 dp sp dLen dCap sLen sCap Tryz.underlying23 infoIr (by simpa using hn.symm), by simpa [splice] using hg, hb⟩
  · obtain ⟨rfl, ad, rfl, hsrc⟩ := hpos (by omega)
    exact ⟨_, run_copy_row (P := Tryz.prog) w _ _ ty 3 g off dLen dCap ad sLen sCap cur.toArray 3 cs Tryz.underlying23 infoIr hg hn hsrc (by simpa using hfit) h1, by simpa [splice] using setRow_heap w g _ _ 3 _ hg, below_setRow hb hBg _⟩

theorem FlI.splice {W : World} {g m k c : Nat} {v : Int} {cur : List Value} (h : W.heap[g]? = some (.cells (Go.splice cur k (List.replicate c (.int .i64 v))).toArray 3 (0, 0))) (hl : cur.length = m) (hk : k + c ≤ m) (hc : ∀ j, j < k → cur[j]? = some (.int .i64 v)) : FlI W g m (k + c) v :=
  ⟨_, h, by rw [length_splice _ _ _ (by simp; omega)]; exact hl, splice_at (by omega) hc⟩
theorem FlI.ft {W : World} {B g m : Nat} {v : Int} (h : FlI W g m m v) (hB : B ≤ g) (hm : m ≤ 4096) (h1 : -9223372036854775808 ≤ v) (h2 : v ≤ 9223372036854775807) : Ft 3 W B (some ⟨g, 0, none⟩) m m (List.replicate m v) := by
  obtain ⟨cur, c1, c2, c3⟩ := h.row
  have hown : W.ownsRow B 3 1 (.slice (some ⟨g, 0, none⟩) m m) m ((List.replicate m v).map (Value.int .i64)) := by
    refine ⟨by simp, .inr ⟨g, m, cur.toArray, rfl, hB, c1, Nat.le_refl _, by unfold maxLen; omega, by simp [c2], ?_⟩⟩
    rw [Nat.mul_one]
    apply List.ext_getElem?
    intro i
    by_cases hi : i < m
    · rw [List.getElem?_take_of_lt hi]
      rw [c3 i hi]
      simp [hi]
    · rw [List.getElem?_eq_none (by simp; omega), List.getElem?_eq_none (by simp; omega)]
  obtain ⟨ao, cap, e, hf⟩ := Ft.mk' (zs := List.replicate m v) (by simp) (by omega) (fun k hk => by simp [nth, hk]; exact ⟨h1, h2⟩) hown
  cases e
  exact hf

set_option maxHeartbeats 4000000 in
set_option maxRecDepth 20000 in
theorem repeatI_any (xo : Addr) (c : Nat) (v : Int) (m : Nat) (w : World) (hm : m ≤ 4096) (hx : w.cell? xo = some (.int .i64 v)) (hxl : xo.block < w.heap.size) (hxs : xo.spot = none) (h1 : -9223372036854775808 ≤ v) (h2 : v ≤ 9223372036854775807) :
    Calls Tryz.prog 82 #[.slice (some xo) 1 c, .int .i64 (m : Nat)] w fun e w' => ∃ ao cap, e = .returned (.slice ao m cap) ∧ Ft 3 w' w.heap.size ao m cap (List.replicate m v) ∧ Below w.heap.size w w' := by
  have hb := fun w => bitsMul1 m hm w
  have hmk := run_make_row' (P := Tryz.prog) 23 3 (.int .i64 0) 8 Tryz.underlying23 infoI3r rfl .i64 .i64 m (by omega) (by omega)
  have hnew := allocNew w (.cells (madeCells #[.int .i64 0] m) 3)
  obtain ⟨Z, hZ⟩ : ∃ Z : List Value, madeCells #[.int .i64 0] m = Z.toArray := ⟨(madeCells #[.int .i64 0] m).toList, by simp⟩
  have hZl : Z.length = m := by
    have h : (madeCells #[.int .i64 0] m).size = m := by simp [madeCells]
    rw [hZ] at h; simpa using h
  have HN : Hid ((w.alloc (.cells (madeCells #[.int .i64 0] m) 3)).heap[w.heap.size]? = some (.cells Z.toArray 3 (0, 0))) := by show _ = _; rw [hnew, hZ]
  have HL : Hid (Z.length = m) := hZl
  clear hZ hZl hnew
  have hb0 := box_below w (.cells (madeCells #[.int .i64 0] m) 3)
  have hx1 := (hb0.cell (p := xo) hxl).trans hx
  by_cases hm0 : m = 0
  · subst hm0
    have hmk0 : ∀ w, (Instr.makeSlice 23 (.int .i64 0) (.int .i64 0)).run Tryz.prog w = .ok (.slice (some ⟨w.heap.size, 0, none⟩) 0 0) (w.alloc (.cells (madeCells #[.int .i64 0] 0) 3)) := by simpa using hmk
    clear hmk
    have hrun := fun ty => run_copy_none (P := Tryz.prog) (w.alloc (.cells (madeCells #[.int .i64 0] 0) 3)) 23 23 ty 3 (some ⟨w.heap.size, 0, none⟩) (some xo) 0 0 1 c Tryz.underlying23 infoIr (by simp)
    go_enter Tryz.func82, Tryz.ntmps82
    go_wp2_with (go_at_call 100; refine (hb _).mono ?_; rintro e w' ⟨rfl, hw⟩; rw [hw]; clear hw w')
    refine wp_loop_rounds 1 ?_
    rw [rounds_succ]
    go_wp2
    go_ret
    refine ⟨_, _, rfl, FlI.ft ⟨Z, HN.out, HL.out, fun j hj => by omega⟩ (Nat.le_refl _) (by omega) h1 h2, hb0⟩
  obtain ⟨w1, hrun, hg1, hb1⟩ := run_spliceI (w := w.alloc (.cells (madeCells #[.int .i64 0] m) 3)) 3 (some ⟨w.heap.size, 0, none⟩) (some xo) m m 1 c w.heap.size 0 Z HN.out (List.replicate 1 (.int .i64 v)) (by rw [List.length_replicate]; exact (Nat.min_eq_left (by omega)).symm) (by
    intro _
    refine ⟨rfl, xo, rfl, fun j u hu => ?_⟩
    have hj : j < 1 := by have := (List.getElem?_eq_some_iff.1 hu).1; simpa using this
    obtain rfl : j = 0 := by omega
    rw [List.getElem?_replicate_of_lt hj] at hu
    cases hu
    have e0 : xo.add 0 = xo := by cases xo; rfl
    rw [e0]; exact hx1) (by simp; have := HL.out; omega) (ones v 1) w.heap.size w hb0 (Nat.le_refl _)
  have F1 : FlI w1 w.heap.size m 1 v := by
    have := FlI.splice (c := 1) hg1 HL.out (by omega) (fun j hj => by omega)
    simpa using this
  rw [List.length_replicate] at hrun
  clear hg1 HN HL hb0 hx1 hx
  go_enter Tryz.func82, Tryz.ntmps82
  go_wp2_with (go_at_call 100; refine (hb _).mono ?_; rintro e w' ⟨rfl, hw⟩; rw [hw]; clear hw w')
  clear hrun hmk
  go_loopw [8] (fun i wr => ∃ k : Nat, 1 ≤ k ∧ k ≤ m ∧ i = .int .i64 (k : Nat) ∧ FlI wr w.heap.size m k v ∧ Below w.heap.size w wr) (fun i _ => m - (intOf i).toNat)
  case atStart => exact ⟨1, by omega, by omega, rfl, F1, hb1⟩
  case round =>
    obtain ⟨k, hk1, hk2, rfl, FK, hbk⟩ := hrel
    by_cases hlt : k < m
    · obtain ⟨cc, hcc⟩ : ∃ cc, cc = Nat.min k (m - k) := ⟨_, rfl⟩
      have hc1 : cc ≤ k := by rw [hcc]; exact Nat.min_le_left _ _
      have hc2 : cc ≤ m - k := by rw [hcc]; exact Nat.min_le_right _ _
      have hc3 : 1 ≤ cc := by rw [hcc]; exact Nat.le_min.2 ⟨hk1, by omega⟩
      have HC : Hid (cc = Nat.min k (m - k)) := hcc
      clear hcc
      have hi1 : (k : Int) ≤ (m : Int) := by omega
      have hne : ¬ m = k := by omega
      have ww : IntKind.i64.wrap ((k : Int) + (cc : Int)) = (k : Int) + (cc : Int) := wrapIn _ (by omega)
      go_wp2
      have S0 : FlI wr w.heap.size m k v ∧ Below w.heap.size w wr := ⟨FK, hbk⟩
      go_region_held3 (fun W => FlI W w.heap.size m k v ∧ Below w.heap.size w W) (first | assumption | exact ⟨⟨FK.row⟩, hbk.drew⟩)
        (first
          | (obtain ⟨FW, bW⟩ := ‹FlI _ w.heap.size m k v ∧ Below w.heap.size w _›; obtain ⟨cur, d1, d2, d3⟩ := FW.row; refine step_copy_splice rfl (.tmp 41) (.tmp 44) 23 23 rfl 3 Tryz.underlying23 infoIr _ _ _ _ _ _ rfl rfl w.heap.size k cur 3 d1 (List.replicate cc (.int .i64 v)) (by rw [List.length_replicate]; exact HC.out) (fun _ => ⟨rfl, _, rfl, fun j u hu => fill_srcI FW hc1 hu⟩) (by rw [List.length_replicate]; omega) (ones v cc) w.heap.size w bW (Nat.le_refl _) ?_; intro w2 HG2 hb2; rw [List.length_replicate]; have F2 := FlI.splice HG2.out d2 (by omega) d3; have S2 : FlI w2 w.heap.size m k v ∧ Below w.heap.size w w2 := ⟨F2.less (by omega), hb2⟩))
      go_wp2
      go_roundw
      case rel => exact ⟨k + cc, by omega, by omega, by go_num, F2, hb2⟩
      case measure => simp [intOf]; omega
    · obtain rfl : k = m := by omega
      go_wp2
      go_ret
      exact ⟨_, _, rfl, FK.ft (Nat.le_refl _) hm h1 h2, hbk⟩
end Go.Proofs.YtldhochafkcpiaaGreat


namespace Go.Proofs.YtldhochafkcpiaaGreat

open Go.RowKit

set_option linter.unusedVariables false

set_option maxHeartbeats 2000000 in
set_option maxRecDepth 20000 in
theorem grow8_any (m : Nat) (w : World) (hm : m ≤ 10000) :
    Calls Tryz.prog 84 #[.slice none 0 0, .int .i64 (m : Nat)] w fun e w' => ∃ ao c, e = .returned (.slice ao 0 c) ∧ Ft 2 w' w.heap.size ao 0 c [] ∧ Below w.heap.size w w' := by
  by_cases h0 : m = 0
  · subst h0
    go_enter Tryz.func84, Tryz.ntmps84
    go_wp2
    go_ret
    exact ⟨_, _, rfl, Ft.nil _ _ _, Below.refl _ _⟩
  · obtain ⟨i0, hi, hz0, hz1, hz2⟩ := info_parts tyL.info
    have hr := Lib.run_append_nil_zeros (P := Tryz.prog) w 22 2 22 2 i0 (.int .i64 0) .i64 .i64 Tryz.underlying22 Tryz.underlying2 hi hz0 m (by omega) (by omega) (by omega) (by rw [hz2]; omega)
    have g1 := grownCap_ge w m 0 2
    have g2 := grownCap_le_maxLen w m 0 2 (by unfold maxLen; omega)
    generalize grownCap w m 0 2 = cap at *
    obtain ⟨cur, hcur⟩ := arr_list (Builtin.zeroCells (Value.int IntKind.i64 0).cells m ++ Builtin.zeroCells (Value.int IntKind.i64 0).cells (cap - m))
    have hl : (Builtin.zeroCells (Value.int IntKind.i64 0).cells m ++ Builtin.zeroCells (Value.int IntKind.i64 0).cells (cap - m)).size = cap := by
      simp [Builtin.zeroCells, Value.cells]
      omega
    have hn := allocNew w.drew (.cells (Builtin.zeroCells (Value.int IntKind.i64 0).cells m ++ Builtin.zeroCells (Value.int IntKind.i64 0).cells (cap - m)) 2)
    rw [hcur] at hr hn hl
    have HR : Hid ((Builtin.append_ #[22, 2] 22 #[.slice none 0 0, .int .i64 (m : Nat)]).run Tryz.prog w = .ok (.slice (some ⟨w.heap.size, 0, none⟩) m cap) (w.drew.alloc (.cells cur.toArray 2))) := hr
    have HN : Hid ((w.drew.alloc (.cells cur.toArray 2)).heap[w.heap.size]? = some (.cells cur.toArray 2 (0, 0))) := hn
    have HL : Hid (cur.length = cap) := by show _ = _; simpa using hl
    have t1 : decide ((m : Int) < 0) = false := by simp
    have t2 : decide ((0 : Int) < (m : Int)) = true := by simp; omega
    have w1 : IntKind.i64.wrap (m : Int) = (m : Int) := wrapIn _ (by omega)
    have c0 : ¬ cap = 0 := by omega
    have cm : cap ≤ 9223372036854775807 := by unfold maxLen at g2; omega
    clear hr hn hl hcur
    go_enter Tryz.func84, Tryz.ntmps84
    go_wp2_with (at_builtin; refine Lib.wpList_append_run _ rfl _ _ _ _ rfl _ _ rfl rfl _ _ HR.out ?_)
    go_ret
    exact ⟨_, _, rfl, Ft.row HN.out (Nat.le_refl _) rfl (by omega) (fun k hk => by omega) (Nat.zero_le _) g2 HL.out rfl, (Below.refl _ w).drew.alloc (by simp) _⟩

/-- Two lists, laid down as a list of lists. -/
theorem two_lists8 {w : World} {vb : Nat} {x y : Value} (h : w.heap[vb]? = some (.cells #[x, y] 22 (0, 0))) : w.cell? ⟨vb, 0, none⟩ = some x ∧ w.cell? ⟨vb, 1, none⟩ = some y :=
  ⟨(box2 h).1, (box2 h).2.1⟩

set_option maxHeartbeats 4000000 in
set_option maxRecDepth 20000 in
theorem concat8_any (ao bo : Option Addr) (n ca m cb vb : Nat) (zs ys : List Int) (w : World) (hv : w.heap[vb]? = some (.cells #[.slice ao n ca, .slice bo m cb] 22 (0, 0))) (h : Rd w ao n zs) (hs : Sl ao n ca) (g : Rd w bo m ys) (gs : Sl bo m cb) (hn : n ≤ 5000) (hm : m ≤ 5000) :
    Calls Tryz.prog 54 #[.slice (some ⟨vb, 0, none⟩) 2 2] w fun e w' => ∃ co c, e = .returned (.slice co (n + m) c) ∧ Ft 2 w' w.heap.size co (n + m) c (zs ++ ys) ∧ Below w.heap.size w w' := by
  obtain ⟨x0, x1⟩ := two_lists8 hv
  have hvl := (Array.getElem?_eq_some_iff.1 hv).1
  have hg := grow8_any (n + m) w (by omega)
  have hg' : Calls Tryz.prog 84 #[.slice none 0 0, .int .i64 ((n : Int) + (m : Int))] w fun e w' => ∃ ao c, e = .returned (.slice ao 0 c) ∧ Ft 2 w' w.heap.size ao 0 c [] ∧ Below w.heap.size w w' := by simpa using hg
  have w1 : IntKind.i64.wrap (n : Int) = (n : Int) := wrapIn _ (by omega)
  have w2 : IntKind.i64.wrap ((n : Int) + (m : Int)) = (n : Int) + (m : Int) := wrapIn _ (by omega)
  have t1 : decide ((n : Int) < 0) = false := by simp
  have t2 : decide ((n : Int) + (m : Int) < 0) = false := by simp; omega
  clear hg hv
  go_enter Tryz.func54, Tryz.ntmps54
  go_wp2
  refine wp_loop_rounds 3 ?_
  iterate 3 (rw [rounds_succ]; go_wp2_with (go_at_call 84; refine hg'.mono ?_; rintro e w1 ⟨o1, c1, rfl, f1, b1⟩; have y0 := (b1.cell (p := ⟨vb, 0, none⟩) hvl).trans x0; have y1 := (b1.cell (p := ⟨vb, 1, none⟩) hvl).trans x1))
  refine wp_loop_rounds 3 ?_
  iterate 3 (rw [rounds_succ]; go_wp2_with (first
    | (at_builtin; refine wpList_joinT tyL rfl _ _ rfl w.heap.size o1 ao 0 c1 n ca [] zs rfl rfl f1 (h.below b1 (Nat.le_refl _)) hs (by omega) b1.size ?_; intro co2 c2 w2 f2 b2; rw [Nat.zero_add, List.nil_append] at f2; have b12 := b1.trans b2; have u0 := (b12.cell (p := ⟨vb, 0, none⟩) hvl).trans x0; have u1 := (b12.cell (p := ⟨vb, 1, none⟩) hvl).trans x1)
    | (at_builtin; refine wpList_joinT tyL rfl _ _ rfl w.heap.size co2 bo n c2 m cb zs ys rfl rfl f2 (g.below b12 (Nat.le_refl _)) gs (by omega) b12.size ?_; intro co3 c3 w3 f3 b3; have b13 := b12.trans b3; have v0 := (b13.cell (p := ⟨vb, 0, none⟩) hvl).trans x0; have v1 := (b13.cell (p := ⟨vb, 1, none⟩) hvl).trans x1)))
  go_ret
  exact ⟨_, _, rfl, f3, b13⟩

end Go.Proofs.YtldhochafkcpiaaGreat




namespace Go.Proofs.YtldhochafkcpiaaGreat

open Go.RowKit

set_option linter.unusedVariables false

set_option maxHeartbeats 1000000 in
theorem item6_any (so ao : Option Addr) (sn sc an ac : Nat) (sh : List Int) (w : World) (h : Rd w so sn sh) (hs : Sl so sn sc) :
    Calls Tryz.prog 48 #[.agg #[.slice so sn sc, .slice ao an ac]] w fun e w' => ∃ o c, e = .returned (.slice o (sn - 1) c) ∧ Ft 3 w' w.heap.size o (sn - 1) c (sh.drop 1) ∧ Below w.heap.size w w' := by
  have hb := box_below w (.cells #[.slice so sn sc, .slice ao an ac] 25)
  have hr : rankF sn (-1) = sn - 1 := by unfold rankF; rw [if_neg (by omega)]; omega
  have hl := h.len
  have hd : sh.drop (sn - (sn - 1)) = sh.drop 1 := by
    by_cases h0 : sn = 0
    · subst h0
      obtain rfl : sh = [] := List.eq_nil_of_length_eq_zero hl
      rfl
    · rw [show sn - (sn - 1) = 1 by omega]
  have sp := split_any so sn sc sh (-1) _ (h.below hb (Nat.le_refl _)) hs (by omega) (by omega)
  rw [hr, hd] at sp
  clear hr hd hl
  go_enter Tryz.func48, Tryz.ntmps48
  go_wp2_with (go_at_call 79; refine sp.mono ?_; rintro e w1 ⟨o1, c1, o2, c2, rfl, f1, f2, _, hb1⟩)
  go_ret
  exact ⟨_, _, rfl, (Fr.ft f2).mono (by simp), hb.trans (hb1.mono (by simp))⟩

set_option maxHeartbeats 2000000 in
/-- An array that is no scalar stays as it is. -/
theorem spread_no (so ao to : Option Addr) (sn sc an ac tn tc : Nat) (w : World) (hn : 0 < sn) :
    Calls Tryz.prog 51 #[.agg #[.slice so sn sc, .slice ao an ac], .slice to tn tc] w fun e w' => e = .returned (.agg #[.slice so sn sc, .slice ao an ac]) ∧ Below w.heap.size w w' := by
  have U0 := un_start w so sn sc ao an ac
  have t0 : decide (0 < sn) = true := by simpa using hn
  obtain ⟨x0, x1, ⟨_, _, hr⟩, bb⟩ := U0
  obtain ⟨y0, y1, z0, z1⟩ := box2 hr
  go_enter Tryz.func51, Tryz.ntmps51
  go_wp2
  (try simp only [Exit.inBlock, Exit.then])
  refine bodyPost_ret (v := .agg #[.slice so sn sc, .slice ao an ac]) (by simp [results, Tryz.results51]; go_simp) rfl ?_
  exact ⟨rfl, by first | exact (box_below w _).trans ((box_below _ _).mono (by simp)) | exact below_set2 _ _ _ _ bb (by omega) (Nat.le_refl _)⟩
set_option maxHeartbeats 2000000 in
/-- A scalar is laid out over a shape. -/
theorem spread_yes (so ao to : Option Addr) (sc an ac tn tc : Nat) (at' ts : List Int) (w : World) (ha : Rd w ao an at') (han : 0 < an) (ht : Rd w to tn ts) (st : Sl to tn tc) (hm : mayF ts = 0) :
    Calls Tryz.prog 51 #[.agg #[.slice so 0 sc, .slice ao an ac], .slice to tn tc] w fun e w' => ∃ o1 n1 c1 o2 n2 c2, e = .returned (.agg #[.slice o1 n1 c1, .slice o2 n2 c2]) ∧ Ft 3 w' w.heap.size o1 n1 c1 ts ∧ Ft 2 w' w.heap.size o2 n2 c2 (List.replicate (pr ts).toNat (nth at' 0)) ∧ Below w.heap.size w w' := by
  have U0 := un_start w so 0 sc ao an ac
  have num := ha.num 0 han
  have hfl := fill_any to tn tc ts (nth at' 0) _ (ht.below U0.bel (Nat.le_refl _)) st num.1 num.2
  rw [hm, show filS ts = ts from if_pos hm, show filA ts (nth at' 0) = List.replicate (pr ts).toNat (nth at' 0) from if_pos hm] at hfl
  obtain ⟨b, off, rfl, hb, hc⟩ := (ha.below U0.bel (Nat.le_refl _)).cells han
  have c0 := hc 0 han
  rw [Nat.add_zero] at c0
  have b0 : (0 : Int) < (an : Int) := by omega
  have x1 := U0.c1
  have x0 := U0.c0
  have HSZ : Hid (((w.alloc (.cells #[.slice so 0 sc, .slice (some ⟨b, off, none⟩) an ac] 25)).alloc (.cells #[.slice none 0 0, .slice none 0 0] 25)).heap.size = w.heap.size + 2) := by show _ = _; simp
  clear hc hm num
  go_enter Tryz.func51, Tryz.ntmps51
  go_wp2_with (go_at_call 46; (with_reducible refine hfl.mono ?_); rintro e w3 ⟨o1, n1, c1, o2, n2, c2, rfl, f1, f2, _, k3⟩; have U3 := U0.below k3 (by have := HSZ.out; omega); have U4 := U3.below (box_below w3 (.cells #[.slice o1 n1 c1, .slice o2 n2 c2] 25)) (by have := U3.sz; omega); obtain ⟨_, _, hr4⟩ := U4.r; obtain ⟨k0, k1, z0, z1⟩ := box2 hr4)
  (try simp only [Exit.inBlock, Exit.then])
  refine bodyPost_ret (v := .agg #[.slice o1 n1 c1, .slice o2 n2 c2]) (by simp [results, Tryz.results51]; go_simp) rfl ?_
  have hz := HSZ.out
  have f1' := f1.below (box_below w3 (.cells #[.slice o1 n1 c1, .slice o2 n2 c2] 25)) (Nat.le_refl _)
  have f2' := f2.below (box_below w3 (.cells #[.slice o1 n1 c1, .slice o2 n2 c2] 25)) (Nat.le_refl _)
  exact ⟨o1, n1, c1, o2, n2, c2, rfl, (ft_set (w := w) f1' (by omega) _ _).mono (by omega), (ft_set (w := w) f2' (by omega) _ _).mono (by omega), below_set2 _ _ _ _ U4.bel (by omega) (Nat.le_refl _)⟩

set_option maxHeartbeats 2000000 in
theorem ranked_any (so : Option Addr) (sn sc r : Nat) (sh : List Int) (w : World) (hs : Rd w so sn sh) (ss : Sl so sn sc) (hr : sn ≤ r) (h8 : r ≤ 8) :
    Calls Tryz.prog 52 #[.slice so sn sc, .int .i64 (r : Nat)] w fun e w' => ∃ o c, e = .returned (.slice o r c) ∧ Ft 3 w' w.heap.size o r c (List.replicate (r - sn) 1 ++ sh) ∧ Below w.heap.size w w' := by
  obtain ⟨m, hm⟩ : ∃ m : Nat, m + sn = r := ⟨r - sn, by omega⟩
  have e1 : (r : Int) - (sn : Int) = (m : Int) := by omega
  have w1 := wr (z := (m : Int)) (by omega) (by omega)
  have n1 := allocNew w (.cells #[.int .i64 1] 3)
  have k0 := box_below w (.cells #[.int .i64 1] 3)
  have hrep := repeatI_any ⟨w.heap.size, 0, none⟩ 1 1 m _ (by omega) ((cell_of_row _ w.heap.size 0 _ _ (0, 0) n1).trans rfl) (by simp) rfl (by omega) (by omega)
  have HE : Hid (r - sn = m ∧ m + sn = r) := ⟨by omega, hm⟩
  clear n1
  go_enter Tryz.func52, Tryz.ntmps52
  go_wp2_with (first
    | (go_at_call 82; (with_reducible refine hrep.mono ?_); rintro e w2 ⟨o2, c2, rfl, f2, k2⟩)
    | (go_at_call 47; refine (concat_any o2 so m c2 sn sc w2.heap.size _ sh _ (allocNew w2 _) (f2.rd.below (box_below w2 _) (Nat.le_refl _)) f2.sl ((hs.below (k0.trans (k2.mono k0.size)) (Nat.le_refl _)).below (box_below w2 _) (Nat.le_refl _)) ss (by omega) (by omega)).mono ?_; rintro e w3 ⟨o3, c3, rfl, f3, k3⟩))
  go_ret
  rw [HE.out.1]
  have e2 := HE.out.2
  subst e2
  refine ⟨_, _, rfl, f3.mono (by have := k2.size; simp at this ⊢; omega), ?_⟩
  exact ((k0.trans (k2.mono k0.size)).trans ((box_below w2 _).mono (Nat.le_trans k0.size k2.size))).trans (k3.mono (by have := k2.size; simp at this ⊢; omega))
end Go.Proofs.YtldhochafkcpiaaGreat


namespace Go.Proofs.YtldhochafkcpiaaGreat

open Go.RowKit

set_option linter.unusedVariables false

theorem set_self {l : List Value} {i : Nat} {v : Value} (h : l[i]? = some v) : l.set i v = l := by
  apply List.ext_getElem?
  intro j
  by_cases e : i = j
  · subst e
    obtain ⟨hl, _⟩ := List.getElem?_eq_some_iff.1 h
    rw [List.getElem?_set_self hl, h]
  · rw [List.getElem?_set_ne e]
/-- A length that is written as it was. -/
theorem Axs.same {W : World} {g n k : Nat} {axs : List Ax} (h : Axs W g n axs) (hk : k < n) : Axs (W.setCell ⟨g, k * 4, none⟩ (.int .i64 ((nax axs k).len : Nat))) g n axs := by
  obtain ⟨cur, h1, h2, h3⟩ := h.row
  obtain ⟨K, cs, bs, a1, _⟩ := h3 k hk
  have hg := set1 W g (k * 4) (.int .i64 ((nax axs k).len : Nat))
  have r := heap_setCell_same W g (k * 4) _ 89 (.int .i64 ((nax axs k).len : Nat)) h1
  rw [show (cur.toArray.setIfInBounds (k * 4) (.int .i64 ((nax axs k).len : Nat))) = cur.toArray by simp [set_self a1]] at r
  exact ⟨h.len, cur, r, h2, fun j hj => (h3 j hj).keep (fun b hb hne => hg.block b hb (some_ne hne))⟩
theorem gth_plain {s at' : List Int} (h0 : mayF s = 0) (hn : 0 < s.length) (hl : (at'.length : Int) = pr s) : gth at' (axsOf s) = at' := by
  cases s with
  | nil => simp at hn
  | cons z r =>
    have hz := (mayF_zero h0).1
    have h1 : 0 ≤ z := hz 0 (by simp)
    have hr : ∀ k, k < r.length → 0 ≤ nth r k := fun k hk => hz (k + 1) (by simpa using hk)
    have hp := pr_nonneg hr
    rw [pr_cons] at hl
    show gth at' (⟨z.toNat, z.toNat, (pr r).toNat, fun i => (i : Int)⟩ :: axsOf r) = at'
    rw [gth_first at' _ hr rfl]
    dsimp only
    have e : at'.length = z.toNat * (pr r).toNat := by
      have : ((z.toNat * (pr r).toNat : Nat) : Int) = z * pr r := by rw [Int.natCast_mul, Int.toNat_of_nonneg h1, Int.toNat_of_nonneg hp]
      omega
    rw [rows_congr (G := fun i j => nth at' (i * (pr r).toNat + j)) (fun i hi j hj => by rw [if_neg (by omega)]; simp), rows_self e]
theorem pls_plain_in {s at' : List Int} (h0 : mayF s = 0) (hn : 0 < s.length) (hl : (at'.length : Int) = pr s) : ∀ p, p ∈ pls (axsOf s) → p = -1 ∨ (0 ≤ p ∧ p < at'.length) := by
  cases s with
  | nil => simp at hn
  | cons z r =>
    have hz := (mayF_zero h0).1
    have h1 : 0 ≤ z := hz 0 (by simp)
    have hr : ∀ k, k < r.length → 0 ≤ nth r k := fun k hk => hz (k + 1) (by simpa using hk)
    rw [pr_cons] at hl
    exact pls_first_in (a := ⟨z.toNat, z.toNat, (pr r).toNat, fun i => (i : Int)⟩) hr rfl (by show ((z.toNat : Nat) : Int) * pr r ≤ _; rw [Int.toNat_of_nonneg h1]; omega)

set_option maxHeartbeats 4000000 in
set_option maxRecDepth 20000 in
theorem laid_any (xo ao so io : Option Addr) (xn xc an ac sn sc m ic : Nat) (at' s it : List Int) (w : World) (ha : Rd w ao an at') (hs : Rd w so sn s) (h0 : mayF s = 0) (hsn : 0 < sn) (hi : Rd w io m it) (hit : it = s.drop 1) (hl : (at'.length : Int) = pr s) :
    Calls Tryz.prog 55 #[.agg #[.slice xo xn xc, .slice ao an ac], .slice so sn sc, .slice io m ic] w fun e w' => ∃ o2 n2 c2, e = .returned (.slice o2 n2 c2) ∧ Ft 2 w' w.heap.size o2 n2 c2 at' ∧ Below w.heap.size w w' := by
  have b0 := allocNew w (.cells #[.slice xo xn xc, .slice ao an ac] 25)
  have k0 := box_below w (.cells #[.slice xo xn xc, .slice ao an ac] 25)
  have hsl := hs.len
  have hil : m + 1 = sn := by have := hi.len; rw [hit, List.length_drop, hsl] at this; omega
  have hsn8 : sn ≤ 8 := by rw [← hsl]; exact (mayF_zero h0).2.1
  have cAx := axesOf_any so sn sc s _ (hs.below k0 (Nat.le_refl _)) (by omega) (fun k hk => nth_small h0 (by omega)) (fun k hk => drop_small h0 k)
  rw [World.size_alloc] at cAx
  have HLE : Hid (lens (axsOf s) = s) := lens_axsOf (mayF_zero h0).1
  have hga := fun W (gW : Rd W ao an at') (A : Axs W (w.heap.size + 1) sn (axsOf s)) => gather_any xo ao (some ⟨w.heap.size + 1, 0, none⟩) xn xc an ac sn sn at' (axsOf s) W gW A.ax (by omega) (fun k hk => by
    rw [axsOf_nax (by omega)]
    have := nth_small h0 (k := k) (by omega)
    show (nth s k).toNat ≤ 1000000
    omega) (fun _ => by rw [← ha.len]; exact pls_plain_in h0 (by omega) hl)
  rw [HLE.out, h0] at hga
  rw [show gthS at' (axsOf s) = at' by unfold gthS; rw [HLE.out, if_pos h0]; exact gth_plain h0 (by omega) hl] at hga
  have HN : Hid (∀ k, k < m → nth it k = ((nax (axsOf s) (k + 1)).len : Int)) := fun k hk => by
    rw [hit, axsOf_nax (by omega), nth_drop, Nat.add_comm 1 k]
    have := nth_small h0 (k := k + 1) (by omega)
    show _ = (((nth s (k + 1)).toNat : Nat) : Int)
    omega
  clear h0 hl hsl HLE hit
  go_enter Tryz.func55, Tryz.ntmps55
  go_wp2_with (go_at_call 66; (with_reducible refine cAx.mono ?_); rintro e w4 ⟨rfl, X4, k4⟩)
  have B4 : Below w.heap.size w w4 := k0.trans (k4.mono (by omega))
  have C4 := (k4.block w.heap.size (by omega)).trans b0
  clear cAx k4 k0
  go_loopw [16] (fun i V => ∃ k : Nat, k ≤ m ∧ i = .int .i64 (k : Nat) ∧ Axs V (w.heap.size + 1) sn (axsOf s) ∧ Below w.heap.size w V ∧ V.heap[w.heap.size]? = some (.cells #[.slice xo xn xc, .slice ao an ac] 25 (0, 0))) (fun i _ => m - (intOf i).toNat)
  case atStart => exact ⟨0, Nat.zero_le _, rfl, X4, B4, C4⟩
  case round =>
    obtain ⟨k, hk, rfl, A, BV, CV⟩ := hrel
    clear X4 B4 C4
    by_cases hlt : k < m
    · obtain ⟨b, off, rfl, hb, hc⟩ := (hi.below BV (Nat.le_refl _)).cells (by omega)
      have c1 := hc k hlt
      have A2 := A.same (k := k + 1) (by omega)
      obtain ⟨s0, s1, s2, s3, y0, _, _, _, f0, _, _, _⟩ := A.slots (k := k + 1) (by omega)
      rw [← HN.out k hlt] at A2
      have w1 : IntKind.i64.wrap ((k : Int) + 1) = (k : Int) + 1 := wrapIn _ (by omega)
      have b1 : (k : Int) + 1 < (sn : Int) := by omega
      have e1 : ((k : Int) + 1).toNat = k + 1 := by omega
      clear hc
      go_wp2
      go_roundw
      case rel => exact ⟨k + 1, by omega, by go_num, A2, BV.setCell (p := ⟨w.heap.size + 1, (k + 1) * 4, none⟩) (by simp) _, (Below.heap_setCell _ _ _ _ (by simp)).trans CV⟩
      case measure => simp [intOf]; omega
    · obtain rfl : m = k := by omega
      obtain ⟨x0, x1, _, _⟩ := box2 CV
      go_wp2_with (go_at_call 68; (with_reducible refine (hga _ (ha.below BV (Nat.le_refl _)) A).mono ?_); rintro e w5 ⟨o1, n1, c1, o2, n2, c2, rfl, f1, f2, k5⟩)
      go_ret
      refine ⟨_, _, _, rfl, (f2.below (box_below w5 _) (Nat.le_refl _)).mono BV.size, (BV.trans (k5.mono BV.size)).trans ((box_below w5 _).mono (Nat.le_trans BV.size k5.size))⟩
end Go.Proofs.YtldhochafkcpiaaGreat
