
/- Contract of package mold: an array laid into a shape whose items are its own. -/

import Derived.Test.YtpfdiammgdnhmaaGreatC8
import Derived.Test.YtpfdiammgdnhmaaGreatMQ
import Derived.Test.YtpfdiammgdnhmaaGreatC1

namespace Go.Proofs.YtpfdiammgdnhmaaGreat

open Go.RowKit

set_option linter.unusedVariables false

set_option maxHeartbeats 2000000 in
set_option maxRecDepth 20000 in
theorem grow8_any (m : Nat) (w : World) (hm : m ≤ 10000) :
    Calls Tryz.prog 98 #[.slice none 0 0, .int .i64 (m : Nat)] w fun e w' => ∃ ao c, e = .returned (.slice ao 0 c) ∧ Ft 2 w' w.heap.size ao 0 c [] ∧ Below w.heap.size w w' := by
  by_cases h0 : m = 0
  · subst h0
    go_enter Tryz.func98, Tryz.ntmps98
    go_wp2
    go_ret
    exact ⟨_, _, rfl, Ft.nil _ _ _, Below.refl _ _⟩
  · obtain ⟨i0, hi, hz0, hz1, hz2⟩ := info_parts tyL.info
    have hr := Lib.run_append_nil_zeros (P := Tryz.prog) w 23 2 23 2 i0 (.int .i64 0) .i64 .i64 Tryz.underlying23 Tryz.underlying2 hi hz0 m (by omega) (by omega) (by omega) (by rw [hz2]; omega)
    have g1 := grownCap_ge w m 0 2
    have g2 := grownCap_le_maxLen w m 0 2 (by unfold maxLen; omega)
    generalize grownCap w m 0 2 = cap at *
    obtain ⟨cur, hcur⟩ := arr_list (Builtin.zeroCells (Value.int IntKind.i64 0).cells m ++ Builtin.zeroCells (Value.int IntKind.i64 0).cells (cap - m))
    have hl : (Builtin.zeroCells (Value.int IntKind.i64 0).cells m ++ Builtin.zeroCells (Value.int IntKind.i64 0).cells (cap - m)).size = cap := by
      simp [Builtin.zeroCells, Value.cells]
      omega
    have hn := allocNew w.drew (.cells (Builtin.zeroCells (Value.int IntKind.i64 0).cells m ++ Builtin.zeroCells (Value.int IntKind.i64 0).cells (cap - m)) 2)
    rw [hcur] at hr hn hl
    have HR : Hid ((Builtin.append_ #[23, 2] 23 #[.slice none 0 0, .int .i64 (m : Nat)]).run Tryz.prog w = .ok (.slice (some ⟨w.heap.size, 0, none⟩) m cap) (w.drew.alloc (.cells cur.toArray 2))) := hr
    have HN : Hid ((w.drew.alloc (.cells cur.toArray 2)).heap[w.heap.size]? = some (.cells cur.toArray 2 (0, 0))) := hn
    have HL : Hid (cur.length = cap) := by show _ = _; simpa using hl
    have t1 : decide ((m : Int) < 0) = false := by simp
    have t2 : decide ((0 : Int) < (m : Int)) = true := by simp; omega
    have w1 : IntKind.i64.wrap (m : Int) = (m : Int) := wrapIn _ (by omega)
    have c0 : ¬ cap = 0 := by omega
    have cm : cap ≤ 9223372036854775807 := by unfold maxLen at g2; omega
    clear hr hn hl hcur
    go_enter Tryz.func98, Tryz.ntmps98
    go_wp2_with (at_builtin; refine Lib.wpList_append_run _ rfl _ _ _ _ rfl _ _ rfl rfl _ _ HR.out ?_)
    go_ret
    exact ⟨_, _, rfl, Ft.row HN.out (Nat.le_refl _) rfl (by omega) (fun k hk => by omega) (Nat.zero_le _) g2 HL.out rfl, (Below.refl _ w).drew.alloc (by simp) _⟩

/-- Two lists, laid down as a list of lists. -/
theorem two_lists8 {w : World} {vb : Nat} {x y : Value} (h : w.heap[vb]? = some (.cells #[x, y] 23 (0, 0))) : w.cell? ⟨vb, 0, none⟩ = some x ∧ w.cell? ⟨vb, 1, none⟩ = some y :=
  ⟨(box2 h).1, (box2 h).2.1⟩

set_option maxHeartbeats 4000000 in
set_option maxRecDepth 20000 in
theorem concat8_any (ao bo : Option Addr) (n ca m cb vb : Nat) (zs ys : List Int) (w : World) (hv : w.heap[vb]? = some (.cells #[.slice ao n ca, .slice bo m cb] 23 (0, 0))) (h : Rd w ao n zs) (hs : Sl ao n ca) (g : Rd w bo m ys) (gs : Sl bo m cb) (hn : n ≤ 5000) (hm : m ≤ 5000) :
    Calls Tryz.prog 69 #[.slice (some ⟨vb, 0, none⟩) 2 2] w fun e w' => ∃ co c, e = .returned (.slice co (n + m) c) ∧ Ft 2 w' w.heap.size co (n + m) c (zs ++ ys) ∧ Below w.heap.size w w' := by
  obtain ⟨x0, x1⟩ := two_lists8 hv
  have hvl := (Array.getElem?_eq_some_iff.1 hv).1
  have hg := grow8_any (n + m) w (by omega)
  have hg' : Calls Tryz.prog 98 #[.slice none 0 0, .int .i64 ((n : Int) + (m : Int))] w fun e w' => ∃ ao c, e = .returned (.slice ao 0 c) ∧ Ft 2 w' w.heap.size ao 0 c [] ∧ Below w.heap.size w w' := by simpa using hg
  have w1 : IntKind.i64.wrap (n : Int) = (n : Int) := wrapIn _ (by omega)
  have w2 : IntKind.i64.wrap ((n : Int) + (m : Int)) = (n : Int) + (m : Int) := wrapIn _ (by omega)
  have t1 : decide ((n : Int) < 0) = false := by simp
  have t2 : decide ((n : Int) + (m : Int) < 0) = false := by simp; omega
  clear hg hv
  go_enter Tryz.func69, Tryz.ntmps69
  go_wp2
  refine wp_loop_rounds 3 ?_
  iterate 3 (rw [rounds_succ]; go_wp2_with (go_at_call 98; refine hg'.mono ?_; rintro e w1 ⟨o1, c1, rfl, f1, b1⟩; have y0 := (b1.cell (p := ⟨vb, 0, none⟩) hvl).trans x0; have y1 := (b1.cell (p := ⟨vb, 1, none⟩) hvl).trans x1))
  refine wp_loop_rounds 3 ?_
  iterate 3 (rw [rounds_succ]; go_wp2_with (first
    | (at_builtin; refine wpList_joinT tyL rfl _ _ rfl w.heap.size o1 ao 0 c1 n ca [] zs rfl rfl f1 (h.below b1 (Nat.le_refl _)) hs (by omega) b1.size ?_; intro co2 c2 w2 f2 b2; rw [Nat.zero_add, List.nil_append] at f2; have b12 := b1.trans b2; have u0 := (b12.cell (p := ⟨vb, 0, none⟩) hvl).trans x0; have u1 := (b12.cell (p := ⟨vb, 1, none⟩) hvl).trans x1)
    | (at_builtin; refine wpList_joinT tyL rfl _ _ rfl w.heap.size co2 bo n c2 m cb zs ys rfl rfl f2 (g.below b12 (Nat.le_refl _)) gs (by omega) b12.size ?_; intro co3 c3 w3 f3 b3; have b13 := b12.trans b3; have v0 := (b13.cell (p := ⟨vb, 0, none⟩) hvl).trans x0; have v1 := (b13.cell (p := ⟨vb, 1, none⟩) hvl).trans x1)))
  go_ret
  exact ⟨_, _, rfl, f3, b13⟩

end Go.Proofs.YtpfdiammgdnhmaaGreat




namespace Go.Proofs.YtpfdiammgdnhmaaGreat

open Go.RowKit

set_option linter.unusedVariables false

set_option maxHeartbeats 1000000 in
theorem item6_any (so ao : Option Addr) (sn sc an ac : Nat) (sh : List Int) (w : World) (h : Rd w so sn sh) (hs : Sl so sn sc) :
    Calls Tryz.prog 55 #[.agg #[.slice so sn sc, .slice ao an ac]] w fun e w' => ∃ o c, e = .returned (.slice o (sn - 1) c) ∧ Ft 3 w' w.heap.size o (sn - 1) c (sh.drop 1) ∧ Below w.heap.size w w' := by
  have hb := box_below w (.cells #[.slice so sn sc, .slice ao an ac] 25)
  have hr : rankF sn (-1) = sn - 1 := by unfold rankF; rw [if_neg (by omega)]; omega
  have hl := h.len
  have hd : sh.drop (sn - (sn - 1)) = sh.drop 1 := by
    by_cases h0 : sn = 0
    · subst h0
      obtain rfl : sh = [] := List.eq_nil_of_length_eq_zero hl
      rfl
    · rw [show sn - (sn - 1) = 1 by omega]
  have sp := split_any so sn sc sh (-1) _ (h.below hb (Nat.le_refl _)) hs (by omega) (by omega)
  rw [hr, hd] at sp
  clear hr hd hl
  go_enter Tryz.func55, Tryz.ntmps55
  go_wp2_with (go_at_call 83; refine sp.mono ?_; rintro e w1 ⟨o1, c1, o2, c2, rfl, f1, f2, _, hb1⟩)
  go_ret
  exact ⟨_, _, rfl, (Fr.ft f2).mono (by simp), hb.trans (hb1.mono (by simp))⟩


set_option maxHeartbeats 2000000 in
/-- An array that is no scalar stays as it is. -/
theorem spread_no (so ao to : Option Addr) (sn sc an ac tn tc : Nat) (w : World) (hn : 0 < sn) :
    Calls Tryz.prog 66 #[.agg #[.slice so sn sc, .slice ao an ac], .slice to tn tc] w fun e w' => e = .returned (.agg #[.slice so sn sc, .slice ao an ac]) ∧ Below w.heap.size w w' := by
  have U0 := un_start w so sn sc ao an ac
  have t0 : decide (0 < sn) = true := by simpa using hn
  obtain ⟨x0, x1, ⟨_, _, hr⟩, bb⟩ := U0
  obtain ⟨y0, y1, z0, z1⟩ := box2 hr
  go_enter Tryz.func66, Tryz.ntmps66
  go_wp2
  (try simp only [Exit.inBlock, Exit.then])
  refine bodyPost_ret (v := .agg #[.slice so sn sc, .slice ao an ac]) (by simp [results, Tryz.results66]; go_simp) rfl ?_
  exact ⟨rfl, by first | exact (box_below w _).trans ((box_below _ _).mono (by simp)) | exact below_set2 _ _ _ _ bb (by omega) (Nat.le_refl _)⟩
set_option maxHeartbeats 2000000 in
/-- A scalar is laid out over a shape. -/
theorem spread_yes (so ao to : Option Addr) (sc an ac tn tc : Nat) (at' ts : List Int) (w : World) (ha : Rd w ao an at') (han : 0 < an) (ht : Rd w to tn ts) (st : Sl to tn tc) (hm : mayF ts = 0) :
    Calls Tryz.prog 66 #[.agg #[.slice so 0 sc, .slice ao an ac], .slice to tn tc] w fun e w' => ∃ o1 n1 c1 o2 n2 c2, e = .returned (.agg #[.slice o1 n1 c1, .slice o2 n2 c2]) ∧ Ft 3 w' w.heap.size o1 n1 c1 ts ∧ Ft 2 w' w.heap.size o2 n2 c2 (List.replicate (pr ts).toNat (nth at' 0)) ∧ Below w.heap.size w w' := by
  have U0 := un_start w so 0 sc ao an ac
  have num := ha.num 0 han
  have hfl := fill_any to tn tc ts (nth at' 0) _ (ht.below U0.bel (Nat.le_refl _)) st num.1 num.2
  rw [hm, show filS ts = ts from if_pos hm, show filA ts (nth at' 0) = List.replicate (pr ts).toNat (nth at' 0) from if_pos hm] at hfl
  obtain ⟨b, off, rfl, hb, hc⟩ := (ha.below U0.bel (Nat.le_refl _)).cells han
  have c0 := hc 0 han
  rw [Nat.add_zero] at c0
  have b0 : (0 : Int) < (an : Int) := by omega
  have x1 := U0.c1
  have x0 := U0.c0
  have HSZ : Hid (((w.alloc (.cells #[.slice so 0 sc, .slice (some ⟨b, off, none⟩) an ac] 25)).alloc (.cells #[.slice none 0 0, .slice none 0 0] 25)).heap.size = w.heap.size + 2) := by show _ = _; simp
  clear hc hm num
  go_enter Tryz.func66, Tryz.ntmps66
  go_wp2_with (go_at_call 64; (with_reducible refine hfl.mono ?_); rintro e w3 ⟨o1, n1, c1, o2, n2, c2, rfl, f1, f2, _, k3⟩; have U3 := U0.below k3 (by have := HSZ.out; omega); have U4 := U3.below (box_below w3 (.cells #[.slice o1 n1 c1, .slice o2 n2 c2] 25)) (by have := U3.sz; omega); obtain ⟨_, _, hr4⟩ := U4.r; obtain ⟨k0, k1, z0, z1⟩ := box2 hr4)
  (try simp only [Exit.inBlock, Exit.then])
  refine bodyPost_ret (v := .agg #[.slice o1 n1 c1, .slice o2 n2 c2]) (by simp [results, Tryz.results66]; go_simp) rfl ?_
  have hz := HSZ.out
  have f1' := f1.below (box_below w3 (.cells #[.slice o1 n1 c1, .slice o2 n2 c2] 25)) (Nat.le_refl _)
  have f2' := f2.below (box_below w3 (.cells #[.slice o1 n1 c1, .slice o2 n2 c2] 25)) (Nat.le_refl _)
  exact ⟨o1, n1, c1, o2, n2, c2, rfl, (ft_set (w := w) f1' (by omega) _ _).mono (by omega), (ft_set (w := w) f2' (by omega) _ _).mono (by omega), below_set2 _ _ _ _ U4.bel (by omega) (Nat.le_refl _)⟩

set_option maxHeartbeats 2000000 in
theorem ranked_any (so : Option Addr) (sn sc r : Nat) (sh : List Int) (w : World) (hs : Rd w so sn sh) (ss : Sl so sn sc) (hr : sn ≤ r) (h8 : r ≤ 8) :
    Calls Tryz.prog 67 #[.slice so sn sc, .int .i64 (r : Nat)] w fun e w' => ∃ o c, e = .returned (.slice o r c) ∧ Ft 3 w' w.heap.size o r c (List.replicate (r - sn) 1 ++ sh) ∧ Below w.heap.size w w' := by
  obtain ⟨m, hm⟩ : ∃ m : Nat, m + sn = r := ⟨r - sn, by omega⟩
  have e1 : (r : Int) - (sn : Int) = (m : Int) := by omega
  have w1 := wr (z := (m : Int)) (by omega) (by omega)
  have n1 := allocNew w (.cells #[.int .i64 1] 3)
  have k0 := box_below w (.cells #[.int .i64 1] 3)
  have hrep := repeatI_any ⟨w.heap.size, 0, none⟩ 1 1 m _ (by omega) ((cell_of_row _ w.heap.size 0 _ _ (0, 0) n1).trans rfl) (by simp) rfl (by omega) (by omega)
  have HE : Hid (r - sn = m ∧ m + sn = r) := ⟨by omega, hm⟩
  clear n1
  go_enter Tryz.func67, Tryz.ntmps67
  go_wp2_with (first
    | (go_at_call 96; (with_reducible refine hrep.mono ?_); rintro e w2 ⟨o2, c2, rfl, f2, k2⟩)
    | (go_at_call 56; refine (concat_any o2 so m c2 sn sc w2.heap.size _ sh _ (allocNew w2 _) (f2.rd.below (box_below w2 _) (Nat.le_refl _)) f2.sl ((hs.below (k0.trans (k2.mono k0.size)) (Nat.le_refl _)).below (box_below w2 _) (Nat.le_refl _)) ss (by omega) (by omega)).mono ?_; rintro e w3 ⟨o3, c3, rfl, f3, k3⟩))
  go_ret
  rw [HE.out.1]
  have e2 := HE.out.2
  subst e2
  refine ⟨_, _, rfl, f3.mono (by have := k2.size; simp at this ⊢; omega), ?_⟩
  exact ((k0.trans (k2.mono k0.size)).trans ((box_below w2 _).mono (Nat.le_trans k0.size k2.size))).trans (k3.mono (by have := k2.size; simp at this ⊢; omega))
end Go.Proofs.YtpfdiammgdnhmaaGreat


namespace Go.Proofs.YtpfdiammgdnhmaaGreat

open Go.RowKit

set_option linter.unusedVariables false

theorem set_self {l : List Value} {i : Nat} {v : Value} (h : l[i]? = some v) : l.set i v = l := by
  apply List.ext_getElem?
  intro j
  by_cases e : i = j
  · subst e
    obtain ⟨hl, _⟩ := List.getElem?_eq_some_iff.1 h
    rw [List.getElem?_set_self hl, h]
  · rw [List.getElem?_set_ne e]
/-- A length that is written as it was. -/
theorem Axs.same {W : World} {g n k : Nat} {axs : List Ax} (h : Axs W g n axs) (hk : k < n) : Axs (W.setCell ⟨g, k * 4, none⟩ (.int .i64 ((nax axs k).len : Nat))) g n axs := by
  obtain ⟨cur, h1, h2, h3⟩ := h.row
  obtain ⟨K, cs, bs, a1, _⟩ := h3 k hk
  have hg := set1 W g (k * 4) (.int .i64 ((nax axs k).len : Nat))
  have r := heap_setCell_same W g (k * 4) _ 76 (.int .i64 ((nax axs k).len : Nat)) h1
  rw [show (cur.toArray.setIfInBounds (k * 4) (.int .i64 ((nax axs k).len : Nat))) = cur.toArray by simp [set_self a1]] at r
  exact ⟨h.len, cur, r, h2, fun j hj => (h3 j hj).keep (fun b hb hne => hg.block b hb (some_ne hne))⟩
theorem gth_plain {s at' : List Int} (h0 : mayF s = 0) (hn : 0 < s.length) (hl : (at'.length : Int) = pr s) : gth at' (axsOf s) = at' := by
  cases s with
  | nil => simp at hn
  | cons z r =>
    have hz := (mayF_zero h0).1
    have h1 : 0 ≤ z := hz 0 (by simp)
    have hr : ∀ k, k < r.length → 0 ≤ nth r k := fun k hk => hz (k + 1) (by simpa using hk)
    have hp := pr_nonneg hr
    rw [pr_cons] at hl
    show gth at' (⟨z.toNat, z.toNat, (pr r).toNat, fun i => (i : Int)⟩ :: axsOf r) = at'
    rw [gth_first at' _ hr rfl]
    dsimp only
    have e : at'.length = z.toNat * (pr r).toNat := by
      have : ((z.toNat * (pr r).toNat : Nat) : Int) = z * pr r := by rw [Int.natCast_mul, Int.toNat_of_nonneg h1, Int.toNat_of_nonneg hp]
      omega
    rw [rows_congr (G := fun i j => nth at' (i * (pr r).toNat + j)) (fun i hi j hj => by rw [if_neg (by omega)]; simp), rows_self e]
theorem pls_plain_in {s at' : List Int} (h0 : mayF s = 0) (hn : 0 < s.length) (hl : (at'.length : Int) = pr s) : ∀ p, p ∈ pls (axsOf s) → p = -1 ∨ (0 ≤ p ∧ p < at'.length) := by
  cases s with
  | nil => simp at hn
  | cons z r =>
    have hz := (mayF_zero h0).1
    have h1 : 0 ≤ z := hz 0 (by simp)
    have hr : ∀ k, k < r.length → 0 ≤ nth r k := fun k hk => hz (k + 1) (by simpa using hk)
    rw [pr_cons] at hl
    exact pls_first_in (a := ⟨z.toNat, z.toNat, (pr r).toNat, fun i => (i : Int)⟩) hr rfl (by show ((z.toNat : Nat) : Int) * pr r ≤ _; rw [Int.toNat_of_nonneg h1]; omega)

set_option maxHeartbeats 4000000 in
set_option maxRecDepth 20000 in
theorem laid_any (xo ao so io : Option Addr) (xn xc an ac sn sc m ic : Nat) (at' s it : List Int) (w : World) (ha : Rd w ao an at') (hs : Rd w so sn s) (h0 : mayF s = 0) (hsn : 0 < sn) (hi : Rd w io m it) (hit : it = s.drop 1) (hl : (at'.length : Int) = pr s) :
    Calls Tryz.prog 70 #[.agg #[.slice xo xn xc, .slice ao an ac], .slice so sn sc, .slice io m ic] w fun e w' => ∃ o2 n2 c2, e = .returned (.slice o2 n2 c2) ∧ Ft 2 w' w.heap.size o2 n2 c2 at' ∧ Below w.heap.size w w' := by
  have b0 := allocNew w (.cells #[.slice xo xn xc, .slice ao an ac] 25)
  have k0 := box_below w (.cells #[.slice xo xn xc, .slice ao an ac] 25)
  have hsl := hs.len
  have hil : m + 1 = sn := by have := hi.len; rw [hit, List.length_drop, hsl] at this; omega
  have hsn8 : sn ≤ 8 := by rw [← hsl]; exact (mayF_zero h0).2.1
  have cAx := axesOf_any so sn sc s _ (hs.below k0 (Nat.le_refl _)) (by omega) (fun k hk => nth_small h0 (by omega)) (fun k hk => drop_small h0 k)
  rw [World.size_alloc] at cAx
  have HLE : Hid (lens (axsOf s) = s) := lens_axsOf (mayF_zero h0).1
  have hga := fun W (gW : Rd W ao an at') (A : Axs W (w.heap.size + 1) sn (axsOf s)) => gather_any xo ao (some ⟨w.heap.size + 1, 0, none⟩) xn xc an ac sn sn at' (axsOf s) W gW A.ax (by omega) (fun k hk => by
    rw [axsOf_nax (by omega)]
    have := nth_small h0 (k := k) (by omega)
    show (nth s k).toNat ≤ 1000000
    omega) (fun _ => by rw [← ha.len]; exact pls_plain_in h0 (by omega) hl)
  rw [HLE.out, h0] at hga
  rw [show gthS at' (axsOf s) = at' by unfold gthS; rw [HLE.out, if_pos h0]; exact gth_plain h0 (by omega) hl] at hga
  have HN : Hid (∀ k, k < m → nth it k = ((nax (axsOf s) (k + 1)).len : Int)) := fun k hk => by
    rw [hit, axsOf_nax (by omega), nth_drop, Nat.add_comm 1 k]
    have := nth_small h0 (k := k + 1) (by omega)
    show _ = (((nth s (k + 1)).toNat : Nat) : Int)
    omega
  clear h0 hl hsl HLE hit
  go_enter Tryz.func70, Tryz.ntmps70
  go_wp2_with (go_at_call 59; (with_reducible refine cAx.mono ?_); rintro e w4 ⟨rfl, X4, k4⟩)
  have B4 : Below w.heap.size w w4 := k0.trans (k4.mono (by omega))
  have C4 := (k4.block w.heap.size (by omega)).trans b0
  clear cAx k4 k0
  go_loopw [16] (fun i V => ∃ k : Nat, k ≤ m ∧ i = .int .i64 (k : Nat) ∧ Axs V (w.heap.size + 1) sn (axsOf s) ∧ Below w.heap.size w V ∧ V.heap[w.heap.size]? = some (.cells #[.slice xo xn xc, .slice ao an ac] 25 (0, 0))) (fun i _ => m - (intOf i).toNat)
  case atStart => exact ⟨0, Nat.zero_le _, rfl, X4, B4, C4⟩
  case round =>
    obtain ⟨k, hk, rfl, A, BV, CV⟩ := hrel
    clear X4 B4 C4
    by_cases hlt : k < m
    · obtain ⟨b, off, rfl, hb, hc⟩ := (hi.below BV (Nat.le_refl _)).cells (by omega)
      have c1 := hc k hlt
      have A2 := A.same (k := k + 1) (by omega)
      obtain ⟨s0, s1, s2, s3, y0, _, _, _, f0, _, _, _⟩ := A.slots (k := k + 1) (by omega)
      rw [← HN.out k hlt] at A2
      have w1 : IntKind.i64.wrap ((k : Int) + 1) = (k : Int) + 1 := wrapIn _ (by omega)
      have b1 : (k : Int) + 1 < (sn : Int) := by omega
      have e1 : ((k : Int) + 1).toNat = k + 1 := by omega
      clear hc
      go_wp2
      go_roundw
      case rel => exact ⟨k + 1, by omega, by go_num, A2, BV.setCell (p := ⟨w.heap.size + 1, (k + 1) * 4, none⟩) (by simp) _, (Below.heap_setCell _ _ _ _ (by simp)).trans CV⟩
      case measure => simp [intOf]; omega
    · obtain rfl : m = k := by omega
      obtain ⟨x0, x1, _, _⟩ := box2 CV
      go_wp2_with (go_at_call 61; (with_reducible refine (hga _ (ha.below BV (Nat.le_refl _)) A).mono ?_); rintro e w5 ⟨o1, n1, c1, o2, n2, c2, rfl, f1, f2, k5⟩)
      go_ret
      refine ⟨_, _, _, rfl, (f2.below (box_below w5 _) (Nat.le_refl _)).mono BV.size, (BV.trans (k5.mono BV.size)).trans ((box_below w5 _).mono (Nat.le_trans BV.size k5.size))⟩
end Go.Proofs.YtpfdiammgdnhmaaGreat
