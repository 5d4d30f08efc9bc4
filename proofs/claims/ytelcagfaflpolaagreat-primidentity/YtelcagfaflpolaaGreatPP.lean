
/- PrimIdentity: turned. -/

import Derived.Test.YtelcagfaflpolaaGreatPO

namespace Go.Proofs.YtelcagfaflpolaaGreat

open Go.RowKit

set_option linter.unusedVariables false

/-- An array of one's own in the box gz, the first k of whose atoms are changed by f. -/
structure Tu (w V : World) (gz : Nat) (o1 : Option Addr) (sn c1 : Nat) (o2 : Option Addr) (an c2 : Nat) (sh at' : List Int) (f : Int → Int) (k : Nat) : Prop where
  bel : Below w.heap.size w V
  box : V.heap[gz]? = some (.cells #[.slice o1 sn c1, .slice o2 an c2] 36 (0, 0))
  res : V.heap[w.heap.size + 1]? = some (.cells #[.slice none 0 0, .slice none 0 0] 36 (0, 0))
  s : Ft 3 V (w.heap.size + 2) o1 sn c1 sh
  a : ∃ zs, Ft 2 V (w.heap.size + 2) o2 an c2 zs ∧ ∀ j, j < an → nth zs j = if j < k then f (nth at' j) else nth at' j
theorem Tu.below {w V V' : World} {gz : Nat} {o1 : Option Addr} {sn c1 : Nat} {o2 : Option Addr} {an c2 : Nat} {sh at' : List Int} {f : Int → Int} {k : Nat} (h : Tu w V gz o1 sn c1 o2 an c2 sh at' f k) (b : Below V.heap.size V V') : Tu w V' gz o1 sn c1 o2 an c2 sh at' f k := by
  obtain ⟨zs, h1, h2⟩ := h.a
  exact ⟨btw h.bel b h.bel.size, (b.block _ (Array.getElem?_eq_some_iff.1 h.box).1).trans h.box, (b.block _ (Array.getElem?_eq_some_iff.1 h.res).1).trans h.res, h.s.below b (Nat.le_refl _), zs, h1.below b (Nat.le_refl _), h2⟩
theorem Tu.slot {w V : World} {gz : Nat} {o1 : Option Addr} {sn c1 : Nat} {o2 : Option Addr} {an c2 : Nat} {sh at' : List Int} {f : Int → Int} {k : Nat} (h : Tu w V gz o1 sn c1 o2 an c2 sh at' f k) (hk : k < an) :
    ∃ g, o2 = some ⟨g, 0, none⟩ ∧ V.cell? ⟨g, k, none⟩ = some (.int .i64 (nth at' k)) ∧ V.frozen? ⟨g, k, none⟩ = false := by
  obtain ⟨zs, h1, h2⟩ := h.a
  obtain ⟨b, off, e, hb, hc⟩ := h1.rd.cells (by omega)
  rcases h1.own.2 with ⟨e1, h0⟩ | ⟨g, c, cur, e1, hB2, hg, r⟩
  · cases e1; cases e
  · cases e1
    cases e
    have c := hc k hk
    rw [Nat.zero_add, h2 k hk, if_neg (by omega)] at c
    exact ⟨_, rfl, c, frozen_of_row V _ k _ _ hg⟩
theorem Tu.set {w V : World} {gz : Nat} {o1 : Option Addr} {sn c1 : Nat} {g : Nat} {an c2 : Nat} {sh at' : List Int} {f : Int → Int} {k : Nat} (h : Tu w V gz o1 sn c1 (some ⟨g, 0, none⟩) an c2 sh at' f k) (hk : k < an) (f1 : -9223372036854775808 ≤ f (nth at' k)) (f2 : f (nth at' k) ≤ 9223372036854775807) :
    Tu w (V.setCell ⟨g, k, none⟩ (.int .i64 (f (nth at' k)))) gz o1 sn c1 (some ⟨g, 0, none⟩) an c2 sh at' f (k + 1) := by
  obtain ⟨zs, h1, h2⟩ := h.a
  have hgr := set1 V g k (.int .i64 (f (nth at' k)))
  have hlt := h1.at g 0 rfl
  rcases h1.own.2 with ⟨e1, h0⟩ | ⟨g', c, cur, e1, hB2, hg, r⟩
  · cases e1
  cases e1
  have ne : gz ≠ g := by
    rintro rfl
    have := h.box
    rw [hg] at this
    cases this
  refine ⟨h.bel.setCell (p := ⟨g, k, none⟩) (by have := hlt.1; show w.heap.size ≤ g; omega) _, (hgr.block _ (Array.getElem?_eq_some_iff.1 h.box).1 (fun e => by injection e with e; exact ne e)).trans h.box, (hgr.block _ (Array.getElem?_eq_some_iff.1 h.res).1 (fun e => by injection e with e; have := hlt.1; omega)).trans h.res, h.s.kind hgr hg (by decide), zs.set k (f (nth at' k)), h1.set k hk _ f1 f2, fun j hj => ?_⟩
  rw [nth_set' (by rw [h1.rd.len]; exact hk)]
  by_cases e : j = k
  · rw [if_pos e, if_pos (by omega), e]
  · rw [if_neg e, h2 j hj]
    by_cases c : j < k
    · rw [if_pos c, if_pos (by omega)]
    · rw [if_neg c, if_neg (by omega)]
theorem Tu.skip {w V : World} {gz : Nat} {o1 : Option Addr} {sn c1 : Nat} {o2 : Option Addr} {an c2 : Nat} {sh at' : List Int} {k : Nat} (h : Tu w V gz o1 sn c1 o2 an c2 sh at' (fun z => z) k) (k' : Nat) : Tu w V gz o1 sn c1 o2 an c2 sh at' (fun z => z) k' := by
  obtain ⟨zs, h1, h2⟩ := h.a
  exact ⟨h.bel, h.box, h.res, h.s, zs, h1, fun j hj => by rw [h2 j hj]; split <;> split <;> rfl⟩
theorem Tu.all {w V : World} {gz : Nat} {o1 : Option Addr} {sn c1 : Nat} {o2 : Option Addr} {an c2 : Nat} {sh at' : List Int} {f : Int → Int} (h : Tu w V gz o1 sn c1 o2 an c2 sh at' f an) (hl : at'.length = an) : Ft 2 V (w.heap.size + 2) o2 an c2 (at'.map f) := by
  obtain ⟨zs, h1, h2⟩ := h.a
  have e : zs = at'.map f := ext_nth (by rw [h1.rd.len, List.length_map, hl]) (fun k hk => by rw [h1.rd.len] at hk; rw [h2 k hk, if_pos hk, nth_maps (by omega)])
  rw [← e]; exact h1
theorem tu_start {w V : World} {o1 : Option Addr} {sn c1 : Nat} {o2 : Option Addr} {an c2 : Nat} {sh at' : List Int} (f : Int → Int) {B : Nat} (hB : w.heap.size + 2 ≤ B) (bel : Below w.heap.size w V) (res : V.heap[w.heap.size + 1]? = some (.cells #[.slice none 0 0, .slice none 0 0] 36 (0, 0))) (s : Ft 3 V B o1 sn c1 sh) (a : Ft 2 V B o2 an c2 at') :
    Tu w (V.alloc (.cells #[.slice o1 sn c1, .slice o2 an c2] 36)) V.heap.size o1 sn c1 o2 an c2 sh at' f 0 := by
  have k := box_below V (.cells #[.slice o1 sn c1, .slice o2 an c2] 36)
  exact ⟨btw bel k bel.size, allocNew V _, (k.block _ (Array.getElem?_eq_some_iff.1 res).1).trans res, (s.below k (Nat.le_refl _)).mono hB, at', (a.below k (Nat.le_refl _)).mono hB, fun j hj => by rw [if_neg (by omega)]⟩

set_option maxHeartbeats 4000000 in
theorem turned_same (op : Int) (so ao : Option Addr) (sn sc an ac : Nat) (sh at' : List Int) (w : World) (h : Rd w so sn sh) (ss : Sl so sn sc) (g : Rd w ao an at') (sa : Sl ao an ac) (hop : op < 8 ∨ op = 20) :
    Calls Tryz.prog 23 #[.int .i64 op, .agg #[.slice so sn sc, .slice ao an ac]] w fun e w' => ∃ o1 c1 o2 c2, e = .returned (.agg #[.slice o1 sn c1, .slice o2 an c2]) ∧ Ft 3 w' w.heap.size o1 sn c1 sh ∧ Ft 2 w' w.heap.size o2 an c2 (at'.map (fun z => z)) ∧ Below w.heap.size w w' := by
  have U0 := un_startZ w so sn sc ao an ac
  have s0 := U0.sz
  have how := own3_any so ao sn sc an ac sh at' _ (h.below U0.bel (Nat.le_refl _)) ss (g.below U0.bel (Nat.le_refl _)) sa
  have HL : Hid (at'.length = an) := g.len
  have gr := g.room
  have HB : Hid (∀ k, k < an → -9223372036854775808 ≤ nth at' k ∧ nth at' k ≤ 9223372036854775807) := fun k hk => g.num k hk
  have t8 : (op == 8) = false := by simp; omega
  have t9 : (op == 9) = false := by simp; omega
  have t10 : (op == 10) = false := by simp; omega
  have t11 : (op == 11) = false := by simp; omega
  have t12 : (op == 12) = false := by simp; omega
  have t13 : (op == 13) = false := by simp; omega
  have t14 : (op == 14) = false := by simp; omega
  have t15 : (op == 15) = false := by simp; omega
  have t21 : (op == 21) = false := by simp; omega
  clear hop
  obtain ⟨x0, x1, _, _⟩ := box2 U0.x
  go_enter Tryz.func23, Tryz.ntmps23
  go_wp2_with (first
    | (go_at_call 46; (with_reducible refine how.mono ?_); rintro e w1 ⟨o1, c1, o2, c2, rfl, f1, f2, k1⟩
       have U1 := U0.below k1 s0
       have T0 := tu_start (c1 := c1) (c2 := c2) (fun z => z) s0 U1.bel U1.r f1 f2
       clear how x0 x1))
  generalize hgz : w1.heap.size = gz at *
  clear hgz
  go_loopw [6] (fun i V => ∃ k : Nat, k ≤ an ∧ i = .int .i64 (k : Nat) ∧ Tu w V gz o1 sn c1 o2 an c2 sh at' (fun z => z) k) (fun i _ => an - (intOf i).toNat)
  case atStart => exact ⟨0, Nat.zero_le _, rfl, T0⟩
  case round =>
    obtain ⟨k, hk, rfl, T⟩ := hrel
    clear T0
    obtain ⟨y0, y1, _, _⟩ := box2 T.box
    by_cases hlt : k < an
    · have t1 : decide ((k : Int) < (an : Int)) = true := by simp; omega
      have bk : (k : Int) < (an : Int) := by omega
      have wk : IntKind.i64.wrap ((k : Int) + 1) = (k : Int) + 1 := wrapIn _ (by omega)
      go_wp2
      go_roundw
      case rel => exact ⟨k + 1, by omega, by go_num, T.skip _⟩
      case measure => simp [intOf]; omega
    · obtain rfl : an = k := by omega
      have t1 : decide ((an : Int) < (an : Int)) = false := by simp
      obtain ⟨z0, z1, z2, z3⟩ := box2 T.res
      go_wp2
      (try simp only [Exit.inBlock, Exit.then])
      refine bodyPost_ret (v := .agg #[.slice o1 sn c1, .slice o2 an c2]) (by simp [results, Tryz.results23]; go_simp) rfl ?_
      exact ⟨o1, c1, o2, c2, rfl, (ft_setZ T.s (by omega) _ _).mono (by omega), (ft_setZ (T.all HL.out) (by omega) _ _).mono (by omega), below_set2 _ _ _ _ T.bel (by omega) (Nat.le_refl _)⟩

set_option maxHeartbeats 4000000 in
theorem turned_bit (op : Int) (so ao : Option Addr) (sn sc an ac : Nat) (sh at' : List Int) (w : World) (h : Rd w so sn sh) (ss : Sl so sn sc) (g : Rd w ao an at') (sa : Sl ao an ac) (hop : op = 8 ∨ op = 9 ∨ op = 10 ∨ op = 11 ∨ op = 12 ∨ op = 13) :
    Calls Tryz.prog 23 #[.int .i64 op, .agg #[.slice so sn sc, .slice ao an ac]] w fun e w' => ∃ o1 c1 o2 c2, e = .returned (.agg #[.slice o1 sn c1, .slice o2 an c2]) ∧ Ft 3 w' w.heap.size o1 sn c1 sh ∧ Ft 2 w' w.heap.size o2 an c2 (at'.map (fun z => z % 2)) ∧ Below w.heap.size w w' := by
  have U0 := un_startZ w so sn sc ao an ac
  have s0 := U0.sz
  have how := own3_any so ao sn sc an ac sh at' _ (h.below U0.bel (Nat.le_refl _)) ss (g.below U0.bel (Nat.le_refl _)) sa
  have HL : Hid (at'.length = an) := g.len
  have gr := g.room
  have HB : Hid (∀ k, k < an → -9223372036854775808 ≤ nth at' k ∧ nth at' k ≤ 9223372036854775807) := fun k hk => g.num k hk
  obtain ⟨x0, x1, _, _⟩ := box2 U0.x
  go_enter Tryz.func23, Tryz.ntmps23
  go_wp2_with (first
    | (go_at_call 46; (with_reducible refine how.mono ?_); rintro e w1 ⟨o1, c1, o2, c2, rfl, f1, f2, k1⟩
       have U1 := U0.below k1 s0
       have T0 := tu_start (c1 := c1) (c2 := c2) (fun z => z % 2) s0 U1.bel U1.r f1 f2
       clear how x0 x1))
  generalize hgz : w1.heap.size = gz at *
  clear hgz
  go_loopw [6] (fun i V => ∃ k : Nat, k ≤ an ∧ i = .int .i64 (k : Nat) ∧ Tu w V gz o1 sn c1 o2 an c2 sh at' (fun z => z % 2) k) (fun i _ => an - (intOf i).toNat)
  case atStart => exact ⟨0, Nat.zero_le _, rfl, T0⟩
  case round =>
    obtain ⟨k, hk, rfl, T⟩ := hrel
    clear T0
    obtain ⟨y0, y1, _, _⟩ := box2 T.box
    by_cases hlt : k < an
    · have t1 : decide ((k : Int) < (an : Int)) = true := by simp; omega
      have bk : (k : Int) < (an : Int) := by omega
      have wk : IntKind.i64.wrap ((k : Int) + 1) = (k : Int) + 1 := wrapIn _ (by omega)
      obtain ⟨g2, rfl, q1, q2⟩ := T.slot hlt
      have hb := HB.out k hlt
      have ha' := and_one (nth at' k)
      have hf1 : -9223372036854775808 ≤ (nth at' k) % 2 := by omega
      have hf2 : (nth at' k) % 2 ≤ 9223372036854775807 := by omega
      have T1 := (T.set hlt hf1 hf2).below (Below.refl _ _).drew
      clear hb hf1 hf2
      rcases hop with rfl | rfl | rfl | rfl | rfl | rfl
      all_goals
        go_wp2
        go_region
        go_wp2
        go_roundw
        case rel => exact ⟨k + 1, by omega, by go_num, T1⟩
        case measure => simp [intOf]; omega
    · obtain rfl : an = k := by omega
      have t1 : decide ((an : Int) < (an : Int)) = false := by simp
      obtain ⟨z0, z1, z2, z3⟩ := box2 T.res
      go_wp2
      (try simp only [Exit.inBlock, Exit.then])
      refine bodyPost_ret (v := .agg #[.slice o1 sn c1, .slice o2 an c2]) (by simp [results, Tryz.results23]; go_simp) rfl ?_
      exact ⟨o1, c1, o2, c2, rfl, (ft_setZ T.s (by omega) _ _).mono (by omega), (ft_setZ (T.all HL.out) (by omega) _ _).mono (by omega), below_set2 _ _ _ _ T.bel (by omega) (Nat.le_refl _)⟩

set_option maxHeartbeats 4000000 in
theorem turned_pos (op : Int) (so ao : Option Addr) (sn sc an ac : Nat) (sh at' : List Int) (w : World) (h : Rd w so sn sh) (ss : Sl so sn sc) (g : Rd w ao an at') (sa : Sl ao an ac) (hop : op = 14 ∨ op = 15 ∨ op = 21) :
    Calls Tryz.prog 23 #[.int .i64 op, .agg #[.slice so sn sc, .slice ao an ac]] w fun e w' => ∃ o1 c1 o2 c2, e = .returned (.agg #[.slice o1 sn c1, .slice o2 an c2]) ∧ Ft 3 w' w.heap.size o1 sn c1 sh ∧ Ft 2 w' w.heap.size o2 an c2 (at'.map (fun z => z % 9223372036854775808)) ∧ Below w.heap.size w w' := by
  have U0 := un_startZ w so sn sc ao an ac
  have s0 := U0.sz
  have how := own3_any so ao sn sc an ac sh at' _ (h.below U0.bel (Nat.le_refl _)) ss (g.below U0.bel (Nat.le_refl _)) sa
  have HL : Hid (at'.length = an) := g.len
  have gr := g.room
  have HB : Hid (∀ k, k < an → -9223372036854775808 ≤ nth at' k ∧ nth at' k ≤ 9223372036854775807) := fun k hk => g.num k hk
  obtain ⟨x0, x1, _, _⟩ := box2 U0.x
  go_enter Tryz.func23, Tryz.ntmps23
  go_wp2_with (first
    | (go_at_call 46; (with_reducible refine how.mono ?_); rintro e w1 ⟨o1, c1, o2, c2, rfl, f1, f2, k1⟩
       have U1 := U0.below k1 s0
       have T0 := tu_start (c1 := c1) (c2 := c2) (fun z => z % 9223372036854775808) s0 U1.bel U1.r f1 f2
       clear how x0 x1))
  generalize hgz : w1.heap.size = gz at *
  clear hgz
  go_loopw [6] (fun i V => ∃ k : Nat, k ≤ an ∧ i = .int .i64 (k : Nat) ∧ Tu w V gz o1 sn c1 o2 an c2 sh at' (fun z => z % 9223372036854775808) k) (fun i _ => an - (intOf i).toNat)
  case atStart => exact ⟨0, Nat.zero_le _, rfl, T0⟩
  case round =>
    obtain ⟨k, hk, rfl, T⟩ := hrel
    clear T0
    obtain ⟨y0, y1, _, _⟩ := box2 T.box
    by_cases hlt : k < an
    · have t1 : decide ((k : Int) < (an : Int)) = true := by simp; omega
      have bk : (k : Int) < (an : Int) := by omega
      have wk : IntKind.i64.wrap ((k : Int) + 1) = (k : Int) + 1 := wrapIn _ (by omega)
      obtain ⟨g2, rfl, q1, q2⟩ := T.slot hlt
      have hb := HB.out k hlt
      have ha' := and_max (nth at' k)
      have hf1 : -9223372036854775808 ≤ (nth at' k) % 9223372036854775808 := by omega
      have hf2 : (nth at' k) % 9223372036854775808 ≤ 9223372036854775807 := by omega
      have T1 := (T.set hlt hf1 hf2).below (Below.refl _ _).drew
      clear hb hf1 hf2
      rcases hop with rfl | rfl | rfl
      all_goals
        go_wp2
        go_region
        go_wp2
        go_roundw
        case rel => exact ⟨k + 1, by omega, by go_num, T1⟩
        case measure => simp [intOf]; omega
    · obtain rfl : an = k := by omega
      have t1 : decide ((an : Int) < (an : Int)) = false := by simp
      obtain ⟨z0, z1, z2, z3⟩ := box2 T.res
      go_wp2
      (try simp only [Exit.inBlock, Exit.then])
      refine bodyPost_ret (v := .agg #[.slice o1 sn c1, .slice o2 an c2]) (by simp [results, Tryz.results23]; go_simp) rfl ?_
      exact ⟨o1, c1, o2, c2, rfl, (ft_setZ T.s (by omega) _ _).mono (by omega), (ft_setZ (T.all HL.out) (by omega) _ _).mono (by omega), below_set2 _ _ _ _ T.bel (by omega) (Nat.le_refl _)⟩
end Go.Proofs.YtelcagfaflpolaaGreat
