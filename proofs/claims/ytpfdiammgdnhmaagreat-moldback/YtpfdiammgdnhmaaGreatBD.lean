
/- MoldBack: what the calls of the law answer. -/

import Derived.Test.YtpfdiammgdnhmaaGreatBA
import Derived.Test.YtpfdiammgdnhmaaGreatBB

namespace Go.Proofs.YtpfdiammgdnhmaaGreat

open Go.RowKit

set_option linter.unusedVariables false

def prN (r : List Nat) : Nat := r.foldr (· * ·) 1
def stN (ps : List Nat) (d : Nat × Nat) : List Nat := ps.flatMap fun p => (List.range d.1).map fun i => p + i * d.2
def posF (ps : List Nat) (ds : List (Nat × Nat)) : List Nat := ds.foldl stN ps
def dOf : List Nat → List (Nat × Nat)
  | [] => []
  | z :: r => (z, prN r) :: dOf r
/-- The places of the turned axes. -/
def tpN (r : List Nat) : List Nat := posF [0] (dOf r).reverse
def scN (z : Nat) (d : Nat × Nat) : Nat × Nat := (d.1, d.2 * z)

theorem prN_snoc (s : List Nat) (z : Nat) : prN (s ++ [z]) = prN s * z := by
  induction s with
  | nil => simp [prN]
  | cons a s ih =>
    show a * prN (s ++ [z]) = a * prN s * z
    rw [ih, Nat.mul_assoc]
theorem prN_rev (s : List Nat) : prN s.reverse = prN s := by
  induction s with
  | nil => rfl
  | cons a s ih =>
    rw [List.reverse_cons, prN_snoc, ih]
    show _ = a * prN s
    exact Nat.mul_comm _ _
theorem dOf_snoc (s : List Nat) (z : Nat) : dOf (s ++ [z]) = (dOf s).map (scN z) ++ [(z, 1)] := by
  induction s with
  | nil => rfl
  | cons a s ih =>
    show (a, prN (s ++ [z])) :: dOf (s ++ [z]) = (a, prN s * z) :: ((dOf s).map (scN z) ++ [(z, 1)])
    rw [ih, prN_snoc]
theorem stN_app (ps qs : List Nat) (d : Nat × Nat) : stN (ps ++ qs) d = stN ps d ++ stN qs d := by unfold stN; rw [List.flatMap_append]
theorem posF_app (ds : List (Nat × Nat)) : ∀ ps qs : List Nat, posF (ps ++ qs) ds = posF ps ds ++ posF qs ds := by
  induction ds with
  | nil => intro ps qs; rfl
  | cons d ds ih =>
    intro ps qs
    show posF (stN (ps ++ qs) d) ds = _
    rw [stN_app, ih]; rfl
theorem stN_shift (c : Nat) (ps : List Nat) (d : Nat × Nat) : stN (ps.map (c + ·)) d = (stN ps d).map (c + ·) := by
  unfold stN
  rw [List.flatMap_map, List.map_flatMap]
  refine fm_congr fun p hp => ?_
  rw [List.map_map]
  apply List.map_congr_left
  intro i hi
  simp only [Function.comp]
  omega
theorem posF_shift (c : Nat) (ds : List (Nat × Nat)) : ∀ ps : List Nat, posF (ps.map (c + ·)) ds = (posF ps ds).map (c + ·) := by
  induction ds with
  | nil => intro ps; rfl
  | cons d ds ih =>
    intro ps
    show posF (stN (ps.map (c + ·)) d) ds = _
    rw [stN_shift, ih]; rfl
theorem posF_nil (ds : List (Nat × Nat)) : posF [] ds = [] := by
  induction ds with
  | nil => rfl
  | cons d ds ih => exact ih
theorem posF_first (ds : List (Nat × Nat)) (l s : Nat) : posF (stN [0] (l, s)) ds = (List.range l).flatMap fun i => (posF [0] ds).map (i * s + ·) := by
  have e : stN [0] (l, s) = (List.range l).map fun i => i * s := by
    unfold stN
    simp
  rw [e]
  induction l with
  | zero => simp [posF_nil]
  | succ l ih =>
    rw [List.range_succ, List.map_append, posF_app, ih (by unfold stN; simp), List.flatMap_append]
    congr 1
    simp only [List.map_cons, List.map_nil, List.flatMap_cons, List.flatMap_nil, List.append_nil]
    have := posF_shift (l * s) ds [0]
    simpa using this
theorem stN_scale (z : Nat) (ps : List Nat) (d : Nat × Nat) : stN (ps.map (· * z)) (scN z d) = (stN ps d).map (· * z) := by
  unfold stN scN
  rw [List.flatMap_map, List.map_flatMap]
  refine fm_congr fun p hp => ?_
  rw [List.map_map]
  apply List.map_congr_left
  intro i hi
  simp only [Function.comp]
  rw [Nat.add_mul, Nat.mul_assoc]
theorem posF_scale (z : Nat) (ds : List (Nat × Nat)) : ∀ ps : List Nat, posF (ps.map (· * z)) (ds.map (scN z)) = (posF ps ds).map (· * z) := by
  induction ds with
  | nil => intro ps; rfl
  | cons d ds ih =>
    intro ps
    show posF (stN (ps.map (· * z)) (scN z d)) (ds.map (scN z)) = _
    rw [stN_scale, ih]; rfl
theorem tpN_cons (z : Nat) (r : List Nat) : tpN (z :: r) = (tpN r).flatMap fun p => (List.range z).map fun i => p + i * prN r := by
  unfold tpN
  show posF [0] ((z, prN r) :: dOf r).reverse = _
  rw [List.reverse_cons]
  unfold posF
  rw [List.foldl_append]; rfl
theorem tpN_snoc (s : List Nat) (z : Nat) : tpN (s ++ [z]) = (List.range z).flatMap fun i => (tpN s).map fun q => i + q * z := by
  unfold tpN
  rw [dOf_snoc, List.reverse_append]
  show posF (stN [0] (z, 1)) ((dOf s).map (scN z)).reverse = _
  rw [posF_first, ← List.map_reverse]
  refine fm_congr fun i hi => ?_
  have := posF_scale z (dOf s).reverse [0]
  rw [show [0].map (· * z) = [0] by simp] at this
  rw [this, List.map_map]
  apply List.map_congr_left
  intro q hq
  simp only [Function.comp]
  omega
theorem tpN_bound : ∀ (r : List Nat) (p : Nat), p ∈ tpN r → p < prN r := by
  intro r
  induction r with
  | nil => intro p hp; have : p ∈ [0] := hp; simp at this; subst this; exact Nat.one_pos
  | cons z r ih =>
    intro p hp
    rw [tpN_cons] at hp
    obtain ⟨q, hq, hp⟩ := List.mem_flatMap.1 hp
    obtain ⟨i, hi, rfl⟩ := List.mem_map.1 hp
    have h1 := ih q hq
    have h2 : i + 1 ≤ z := by have := List.mem_range.1 hi; omega
    have h3 := Nat.mul_le_mul_right (prN r) h2
    rw [Nat.succ_mul] at h3
    show q + i * prN r < z * prN r
    omega
theorem fm_len {l : List Nat} {z : Nat} {g : Nat → Nat → Nat} : (l.flatMap fun p => (List.range z).map (g p)).length = l.length * z := by
  induction l with
  | nil => simp
  | cons a l ih => rw [List.flatMap_cons, List.length_append, ih]; simp [Nat.succ_mul, Nat.add_comm]
theorem tpN_len : ∀ r : List Nat, (tpN r).length = prN r := by
  intro r
  induction r with
  | nil => rfl
  | cons z r ih =>
    rw [tpN_cons, fm_len, ih]
    exact Nat.mul_comm _ _
theorem fm_at {z : Nat} {g : Nat → Nat → Nat} : ∀ {l : List Nat} {q i : Nat}, q < l.length → i < z → (l.flatMap fun p => (List.range z).map (g p)).getD (q * z + i) 0 = g (l.getD q 0) i := by
  intro l
  induction l with
  | nil => intro q i h; simp at h
  | cons a l ih =>
    intro q i hq hi
    rw [List.flatMap_cons]
    rw [List.getD_eq_getElem?_getD]
    cases q with
    | zero =>
      rw [Nat.zero_mul, Nat.zero_add, List.getElem?_append_left (by simpa using hi)]
      simp [hi]
    | succ q =>
      rw [List.getElem?_append_right (by simp [Nat.succ_mul]; omega)]
      have := ih (q := q) (i := i) (by simpa using hq) hi
      rw [show (q + 1) * z + i - ((List.range z).map (g a)).length = q * z + i by simp [Nat.succ_mul]; omega, ← List.getD_eq_getElem?_getD, this]
      rfl
/-- Turned round twice, every place is itself. -/
theorem tpN_twice : ∀ r : List Nat, ((tpN r.reverse).map fun q => (tpN r).getD q 0) = List.range (prN r) := by
  intro r
  induction r with
  | nil => rfl
  | cons z r ih =>
    rw [List.reverse_cons, tpN_snoc, List.map_flatMap]
    show _ = List.range (z * prN r)
    rw [← range_mul]
    refine fm_congr fun i hi => ?_
    rw [← ih, List.map_map, List.map_map]
    apply List.map_congr_left
    intro q hq
    have hb := tpN_bound _ q hq
    rw [prN_rev] at hb
    simp only [Function.comp]
    rw [tpN_cons, Nat.add_comm i (q * z), fm_at (by rw [tpN_len]; exact hb) (List.mem_range.1 hi), Nat.add_comm]
theorem prN_pr : ∀ {sh : List Int}, (∀ k, k < sh.length → 0 ≤ nth sh k) → pr sh = (prN (sh.map Int.toNat) : Nat)
  | [], _ => rfl
  | z :: r, h => by
    have h0 : 0 ≤ z := h 0 (by simp)
    have ih := prN_pr (sh := r) (fun k hk => h (k + 1) (by simpa using hk))
    rw [pr_cons, ih]
    show _ = ((z.toNat * prN (r.map Int.toNat) : Nat) : Int)
    rw [Int.natCast_mul, Int.toNat_of_nonneg h0]
def axN (d : Nat × Nat) : Ax := ⟨d.1, d.1, d.2, fun i => (i : Int)⟩
theorem axsOf_dOf : ∀ {sh : List Int}, (∀ k, k < sh.length → 0 ≤ nth sh k) → axsOf sh = (dOf (sh.map Int.toNat)).map axN
  | [], _ => rfl
  | z :: r, h => by
    have hr : ∀ k, k < r.length → 0 ≤ nth r k := fun k hk => h (k + 1) (by simpa using hk)
    have ih := axsOf_dOf (sh := r) hr
    show _ :: axsOf r = axN (z.toNat, prN (r.map Int.toNat)) :: (dOf (r.map Int.toNat)).map axN
    rw [ih, prN_pr hr, Int.toNat_natCast]; rfl
theorem blw_stN (ps : List Nat) (d : Nat × Nat) : blw (axN d) (ps.map fun (p : Nat) => (p : Int)) = (stN ps d).map fun (p : Nat) => (p : Int) := by
  unfold blw stN
  rw [List.flatMap_map, List.map_flatMap]
  refine fm_congr fun p hp => ?_
  rw [List.map_map]
  apply List.map_congr_left
  intro i hi
  have hi' := List.mem_range.1 hi
  have hi2 : i < d.1 := hi'
  unfold alg axN
  simp only [Function.comp]
  rw [if_neg (by omega)]
  rw [Int.natCast_add, Int.natCast_mul]
theorem plsF_posF (ds : List (Nat × Nat)) : ∀ ps : List Nat, plsF (ps.map fun (p : Nat) => (p : Int)) (ds.map axN) = (posF ps ds).map fun (p : Nat) => (p : Int) := by
  induction ds with
  | nil => intro ps; rfl
  | cons d ds ih =>
    intro ps
    rw [List.map_cons, plsF_cons, blw_stN, ih]; rfl
theorem pls_tp {sh : List Int} (h : ∀ k, k < sh.length → 0 ≤ nth sh k) : pls (axsOf sh).reverse = (tpN (sh.map Int.toNat)).map fun (p : Nat) => (p : Int) := by
  unfold pls tpN
  rw [axsOf_dOf h, ← List.map_reverse]
  exact plsF_posF _ [0]
theorem gth_tp {sh at' : List Int} (h : ∀ k, k < sh.length → 0 ≤ nth sh k) : gth at' (axsOf sh).reverse = (tpN (sh.map Int.toNat)).map (nth at') := by
  unfold gth
  rw [pls_tp h, List.map_map]
  apply List.map_congr_left
  intro p hp
  simp only [Function.comp]
  unfold gAt
  rw [if_neg (by omega), Int.toNat_natCast]
theorem nonneg_rev {sh : List Int} (h : ∀ k, k < sh.length → 0 ≤ nth sh k) : ∀ k, k < sh.reverse.length → 0 ≤ nth sh.reverse k := by
  intro k hk
  rw [List.length_reverse] at hk
  have := h (sh.length - 1 - k) (by omega)
  have e : nth sh.reverse k = nth sh (sh.length - 1 - k) := by
    unfold nth
    rw [List.getD_eq_getElem?_getD, List.getD_eq_getElem?_getD, List.getElem?_reverse hk]
  rw [e]; exact this
theorem nth_mapN {l : List Nat} {f : Nat → Int} {k : Nat} (h : k < l.length) : nth (l.map f) k = f (l.getD k 0) := by
  unfold nth
  rw [List.getD_eq_getElem?_getD, List.getElem?_map, List.getElem?_eq_getElem h, List.getD_eq_getElem?_getD, List.getElem?_eq_getElem h]; rfl
/-- Its axes turned round twice, an array is itself. -/
theorem tp_twice {sh at' : List Int} (h : ∀ k, k < sh.length → 0 ≤ nth sh k) (hl : (at'.length : Int) = pr sh) : gth (gth at' (axsOf sh).reverse) (axsOf sh.reverse).reverse = at' := by
  rw [gth_tp h, gth_tp (nonneg_rev h), List.map_reverse]
  have e := tpN_twice (sh.map Int.toNat)
  have hlen : at'.length = prN (sh.map Int.toNat) := by rw [prN_pr h] at hl; omega
  refine Eq.trans ?_ (list_range at')
  rw [hlen, ← e, List.map_map]
  apply List.map_congr_left
  intro q hq
  have hb := tpN_bound _ q hq
  rw [prN_rev] at hb
  simp only [Function.comp]
  exact nth_mapN (by rw [tpN_len]; exact hb)
theorem lens_tp {sh : List Int} (h : ∀ k, k < sh.length → 0 ≤ nth sh k) : lens (axsOf sh).reverse = sh.reverse := by
  unfold lens
  rw [List.map_reverse]
  congr 1
  exact lens_axsOf h
theorem pls_tp_in {sh : List Int} {an : Nat} (h : ∀ k, k < sh.length → 0 ≤ nth sh k) (hl : (an : Int) = pr sh) : ∀ p, p ∈ pls (axsOf sh).reverse → p = -1 ∨ (0 ≤ p ∧ p < an) := by
  intro p hp
  rw [pls_tp h] at hp
  obtain ⟨q, hq, rfl⟩ := List.mem_map.1 hp
  have := tpN_bound _ q hq
  rw [prN_pr h] at hl
  right; omega
theorem pr_rev {sh : List Int} (h : ∀ k, k < sh.length → 0 ≤ nth sh k) : pr sh.reverse = pr sh := by
  rw [prN_pr (nonneg_rev h), prN_pr h, List.map_reverse, prN_rev]
theorem pz_rev (s : List Int) : pz s.reverse = pz s := by
  induction s with
  | nil => rfl
  | cons a s ih => rw [List.reverse_cons, pz_snoc, ih, pz_cons]; split <;> simp [Int.mul_comm]
theorem mayF_rev {sh : List Int} (h : mayF sh = 0) : mayF sh.reverse = 0 := by
  obtain ⟨h1, h2, h3⟩ := mayF_zero h
  exact mayF_ok (nonneg_rev h1) (by simpa using h2) (by rw [pz_rev]; exact h3)
theorem tp_may {sh at' : List Int} (my : mayA sh at' = 0) : mayA sh.reverse (gth at' (axsOf sh).reverse) = 0 := by
  obtain ⟨m1, m2⟩ := mayA_zero my
  have hz := (mayF_zero m1).1
  exact mayA_ok (mayF_rev m1) (by rw [gth_len, lens_tp hz])
end Go.Proofs.YtpfdiammgdnhmaaGreat



namespace Go.Proofs.YtpfdiammgdnhmaaGreat

open Go.RowKit

set_option linter.unusedVariables false

set_option maxHeartbeats 4000000 in
theorem ravel_any (so ao : Option Addr) (sn sc an ac : Nat) (at' : List Int) (w : World) (ha : Rd w ao an at') (sa : Sl ao an ac) (h4 : an ≤ 4096) :
    Calls Tryz.prog 32 #[.agg #[.slice so sn sc, .slice ao an ac]] w fun e w' => Ans w w.heap.size [(an : Int)] at' 0 e w' := by
  have U0 := un_start w so sn sc ao an ac
  have s0 := U0.sz
  have x := U0.all
  obtain ⟨x0, x1, _⟩ := x
  have c8 := fun V (U : Un w V so sn sc ao an ac) => copied8_any ao an ac at' V (ha.below U.bel (Nat.le_refl _)) sa
  go_enter Tryz.func32, Tryz.ntmps32
  go_wp2
  generalize (w.alloc (.cells #[.slice so sn sc, .slice ao an ac] 25)).alloc (.cells #[.slice none 0 0, .slice none 0 0] 25) = W0 at *
  have k16 := box_below W0 (.cells #[.int .i64 (an : Nat)] 3)
  have fl := ft_new 3 W0 [(an : Int)] (by simp) (num1 (by omega) (by omega))
  have UA := U0.below k16 s0
  have UC := UA.drew
  have UD := U0.drew
  go_region_held3 (fun V => V.cell? ⟨w.heap.size, 0, none⟩ = some (.slice so sn sc) ∧ V.cell? ⟨w.heap.size, 1, none⟩ = some (.slice ao an ac) ∧ Un w V so sn sc ao an ac) (first | exact Un.all (by assumption) | exact Un.all (Un.drew (by assumption)) | exact Un.all (Un.set (by assumption) _ _) | exact Un.all (Un.below (by assumption) (box_below _ _) (Un.sz (by assumption))) | exact Un.all (Un.set (Un.below (by assumption) (box_below _ _) (Un.sz (by assumption))) _ _))
    (first
      | (go_at_call 54; (with_reducible refine (c8 (W0.alloc (.cells #[.int .i64 (an : Nat)] 3)).drew UC).mono ?_); rintro e w5 ⟨o5, c5, rfl, f5, k5⟩; have U5 := UC.below k5 UC.sz; have s5 := U5.sz; have fl5 := (fl.below (Below.refl _ _).drew (Nat.le_refl _)).below k5 (Nat.le_refl _); have sA := UC.sz; obtain ⟨u5, v5, hr5⟩ := U5.r; obtain ⟨z0, z1, z2, z3⟩ := box2 hr5)
      | (go_at_call 54; (with_reducible refine (c8 W0.drew UD).mono ?_); rintro e w5 ⟨o5, c5, rfl, f5, k5⟩; have U4 := UD.below k5 UD.sz; have sA := UD.sz; have f6 := f5.below (box_below w5 (.cells #[.int .i64 (an : Nat)] 3)) (Nat.le_refl _); have fl6 := ft_new 3 w5 [(an : Int)] (by simp) (num1 (by omega) (by omega)); have U5 := U4.below (box_below w5 (.cells #[.int .i64 (an : Nat)] 3)) U4.sz; have s4 := U4.sz; have s5 := U5.sz; obtain ⟨u5, v5, hr5⟩ := U5.r; obtain ⟨z0, z1, z2, z3⟩ := box2 hr5))
  all_goals
    go_wp2
    (try simp only [Exit.inBlock, Exit.then])
    first
      | (refine bodyPost_ret (v := .tuple #[.agg #[.slice (some ⟨W0.heap.size, 0, none⟩) 1 1, .slice o5 an c5], .int .i64 0]) (by rw [results_cell_tmp rfl]; go_simp) rfl ?_
         exact ⟨_, _, _, _, _, _, rfl, (ft_set (w := w) fl5 (by omega) _ _).mono (by omega), (ft_set (w := w) f5 (by omega) _ _).mono (by omega), below_set2 _ _ _ _ U5.bel (by omega) (Nat.le_refl _)⟩)
      | (refine bodyPost_ret (v := .tuple #[.agg #[.slice (some ⟨w5.heap.size, 0, none⟩) 1 1, .slice o5 an c5], .int .i64 0]) (by rw [results_cell_tmp rfl]; go_simp) rfl ?_
         exact ⟨_, _, _, _, _, _, rfl, (ft_set (w := w) fl6 (by omega) _ _).mono (by omega), (ft_set (w := w) f6 (by omega) _ _).mono (by omega), below_set2 _ _ _ _ U5.bel (by omega) (Nat.le_refl _)⟩)

set_option maxHeartbeats 4000000 in
theorem tellShape_any (so ao : Option Addr) (sn sc an ac : Nat) (sh : List Int) (w : World) (hs : Rd w so sn sh) (h8 : sn ≤ 8) :
    Calls Tryz.prog 31 #[.agg #[.slice so sn sc, .slice ao an ac]] w fun e w' => Ans w w.heap.size [(sn : Int)] sh 0 e w' := by
  have U0 := un_start w so sn sc ao an ac
  have s0 := U0.sz
  have x := U0.all
  obtain ⟨x0, x1, _⟩ := x
  have hmk := run_make_row' (P := Tryz.prog) 23 2 (.int .i64 0) 8 Tryz.underlying23 infoL3 rfl .i64 .i64 sn (by omega) (by omega)
  have R0 := RwT.start 2 ((w.alloc (.cells #[.slice so sn sc, .slice ao an ac] 25)).alloc (.cells #[.slice none 0 0, .slice none 0 0] 25)) sn (nth sh) (by omega)
  have U1 := U0.below (box_below ((w.alloc (.cells #[.slice so sn sc, .slice ao an ac] 25)).alloc (.cells #[.slice none 0 0, .slice none 0 0] 25)) (.cells (madeCells #[.int .i64 0] sn) 2)) s0
  have HL : Hid (sh.length = sn) := hs.len
  have x := U1.all
  obtain ⟨y0, y1, _⟩ := x
  go_enter Tryz.func31, Tryz.ntmps31
  go_wp2
  generalize hW0 : (w.alloc (.cells #[.slice so sn sc, .slice ao an ac] 25)).alloc (.cells #[.slice none 0 0, .slice none 0 0] 25) = W0 at *
  have hs0 : W0.heap.size = w.heap.size + 1 + 1 := by rw [← hW0]; simp
  go_loopw [14] (fun i V => ∃ k : Nat, k ≤ sn ∧ i = .int .i64 (k : Nat) ∧ RwT 2 W0 V sn k (nth sh)) (fun i _ => sn - (intOf i).toNat)
  case atStart => exact ⟨0, Nat.zero_le _, rfl, R0⟩
  case round =>
    obtain ⟨k, hk, rfl, R⟩ := hrel
    clear R0 hmk
    by_cases hlt : k < sn
    · obtain ⟨b, off, rfl, hb, hc⟩ := (hs.below (U0.bel.trans (R.bel.mono (by omega))) (Nat.le_refl _)).cells (by omega)
      have c1 := hc k hlt
      have hnum := hs.num k hlt
      obtain ⟨u, q0, q1⟩ := R.slot k hlt
      have R3 := R.set hlt hnum.1 hnum.2
      rw [hs0] at q0 q1 R3
      clear hc hs
      go_wp2
      go_roundw
      case rel => exact ⟨k + 1, by omega, by go_num, R3⟩
      case measure => simp [intOf]; omega
    · obtain rfl : sn = k := by omega
      have F := R.all sh HL.out (fun j hj => rfl)
      have UR := U0.below R.bel (by omega)
      have F6 := F.below (box_below wr (.cells #[.int .i64 (sn : Nat)] 3)) (Nat.le_refl _)
      have fl6 := ft_new 3 wr [(sn : Int)] (by simp) (num1 (by omega) (by omega))
      have sR := UR.sz
      have U5 := UR.below (box_below wr (.cells #[.int .i64 (sn : Nat)] 3)) sR
      have s5 := U5.sz
      obtain ⟨u5, v5, hr5⟩ := U5.r
      obtain ⟨z0, z1, z2, z3⟩ := box2 hr5
      rw [hs0] at F6
      go_wp2
      (try simp only [Exit.inBlock, Exit.then])
      refine bodyPost_ret (v := .tuple #[.agg #[.slice (some ⟨wr.heap.size, 0, none⟩) 1 1, .slice (some ⟨w.heap.size + 1 + 1, 0, none⟩) sn sn], .int .i64 0]) (by rw [results_cell_tmp rfl]; go_simp) rfl ?_
      exact ⟨_, _, _, _, _, _, rfl, (ft_set (w := w) fl6 (by omega) _ _).mono (by omega), (ft_set (w := w) F6 (by omega) _ _).mono (by omega), below_set2 _ _ _ _ U5.bel (by omega) (Nat.le_refl _)⟩

set_option maxHeartbeats 2000000 in
/-- An array that may not be is refused. -/
theorem monad_bad (op : Int) (so ao : Option Addr) (sn sc an ac : Nat) (sy ay : List Int) (w : World) (hsy : Rd w so sn sy) (hay : Rd w ao an ay) (my : mayA sy ay ≠ 0) :
    Calls Tryz.prog 10 #[.int .i64 op, .agg #[.slice so sn sc, .slice ao an ac]] w fun e w' => Ans w w.heap.size [] [] 1 e w' := by
  have U0 := un_start w so sn sc ao an ac
  have s0 := U0.sz
  have cM1 := mayA_any so ao sn sc an ac sy ay _ (hsy.below U0.bel (Nat.le_refl _)) (hay.below U0.bel (Nat.le_refl _))
  have t0 : (mayA sy ay != 0) = true := by simpa using my
  have x := U0.all
  obtain ⟨x0, x1, _⟩ := x
  clear my
  generalize mayA sy ay = M at *
  go_enter Tryz.func10, Tryz.ntmps10
  go_wp2_with (go_at_call 23; (with_reducible refine cM1.mono ?_); rintro e w1 ⟨rfl, k1⟩; have U1 := U0.below k1 s0; have s1 := U1.sz; obtain ⟨u5, v5, hr5⟩ := U1.r; obtain ⟨z0, z1, z2, z3⟩ := box2 hr5)
  (try simp only [Exit.inBlock, Exit.then])
  refine bodyPost_ret (v := .tuple #[.agg #[.slice none 0 0, .slice none 0 0], .int .i64 1]) (by rw [results_cell_tmp rfl]; go_simp) rfl ?_
  exact ⟨_, _, _, _, _, _, rfl, Ft.nil _ _ _, Ft.nil _ _ _, below_set2 _ _ _ _ U1.bel (by omega) (Nat.le_refl _)⟩

set_option maxHeartbeats 2000000 in
theorem monad_rev (so ao : Option Addr) (sn sc an ac : Nat) (sy ay S A : List Int) (E : Int) (w : World) (hsy : Rd w so sn sy) (hay : Rd w ao an ay) (my : mayA sy ay = 0)
    (hc : ∀ V, Below w.heap.size w V → Calls Tryz.prog 39 #[.agg #[.slice so sn sc, .slice ao an ac]] V fun e w' => Ans V V.heap.size S A E e w') :
    Calls Tryz.prog 10 #[.int .i64 32, .agg #[.slice so sn sc, .slice ao an ac]] w fun e w' => Ans w w.heap.size S A E e w' := by
  have U0 := un_start w so sn sc ao an ac
  have s0 := U0.sz
  have cM1 := mayA_any so ao sn sc an ac sy ay _ (hsy.below U0.bel (Nat.le_refl _)) (hay.below U0.bel (Nat.le_refl _))
  rw [my] at cM1
  have cD := fun V => monadOf_yes 32 9 V (by omega) rfl (by intro j hj; match j, hj with | 0, _ => exact (by decide : mOp 0 ≠ 32) | 1, _ => exact (by decide : mOp 1 ≠ 32) | 2, _ => exact (by decide : mOp 2 ≠ 32) | 3, _ => exact (by decide : mOp 3 ≠ 32) | 4, _ => exact (by decide : mOp 4 ≠ 32) | 5, _ => exact (by decide : mOp 5 ≠ 32) | 6, _ => exact (by decide : mOp 6 ≠ 32) | 7, _ => exact (by decide : mOp 7 ≠ 32) | 8, _ => exact (by decide : mOp 8 ≠ 32))
  rw [show mFnN 9 = 39 from rfl] at cD
  obtain ⟨x0, x1, _⟩ := U0.all
  clear my
  go_enter Tryz.func10, Tryz.ntmps10
  go_wp2_with (first
    | (go_at_call 23; (with_reducible refine cM1.mono ?_); rintro e w1 ⟨rfl, k1⟩; have U1 := U0.below k1 s0; have s1 := U1.sz)
    | (go_at_call 24; (with_reducible refine (cD w1).mono ?_); rintro e w3 ⟨rfl, k3⟩; have U3 := U1.below k3 s1; have s3 := U3.sz; have U4 := U3.below (box_below w3 (.cells #[.int .i64 32, .func (.func 39) #[] #[]] 52)) s3; obtain ⟨v0, v1, _⟩ := U4.all)
    | (go_at_call 39; (with_reducible refine (hc _ U4.bel).mono ?_); rintro e w5 ⟨o1, n1, c1, o2, n2, c2, rfl, f1, f2, k5⟩; have U5 := U4.below k5 U4.sz; obtain ⟨u5, v5, hr5⟩ := U5.r; obtain ⟨z0, z1, z2, z3⟩ := box2 hr5))
  (try simp only [Exit.inBlock, Exit.then])
  refine bodyPost_ret (v := .tuple #[.agg #[.slice o1 n1 c1, .slice o2 n2 c2], .int .i64 E]) (by rw [results_cell_tmp rfl]; go_simp) rfl ?_
  exact ⟨o1, n1, c1, o2, n2, c2, rfl, (ft_set (w := w) f1 (by simp; omega) _ _).mono (by simp; omega), (ft_set (w := w) f2 (by simp; omega) _ _).mono (by simp; omega), below_set2 _ _ _ _ U5.bel (by omega) (Nat.le_refl _)⟩

set_option maxHeartbeats 2000000 in
theorem monad_left (so ao : Option Addr) (sn sc an ac : Nat) (sy ay S A : List Int) (E : Int) (w : World) (hsy : Rd w so sn sy) (hay : Rd w ao an ay) (my : mayA sy ay = 0)
    (hc : ∀ V, Below w.heap.size w V → Calls Tryz.prog 41 #[.agg #[.slice so sn sc, .slice ao an ac]] V fun e w' => Ans V V.heap.size S A E e w') :
    Calls Tryz.prog 10 #[.int .i64 41, .agg #[.slice so sn sc, .slice ao an ac]] w fun e w' => Ans w w.heap.size S A E e w' := by
  have U0 := un_start w so sn sc ao an ac
  have s0 := U0.sz
  have cM1 := mayA_any so ao sn sc an ac sy ay _ (hsy.below U0.bel (Nat.le_refl _)) (hay.below U0.bel (Nat.le_refl _))
  rw [my] at cM1
  have cD := fun V => monadOf_yes 41 11 V (by omega) rfl (by intro j hj; match j, hj with | 0, _ => exact (by decide : mOp 0 ≠ 41) | 1, _ => exact (by decide : mOp 1 ≠ 41) | 2, _ => exact (by decide : mOp 2 ≠ 41) | 3, _ => exact (by decide : mOp 3 ≠ 41) | 4, _ => exact (by decide : mOp 4 ≠ 41) | 5, _ => exact (by decide : mOp 5 ≠ 41) | 6, _ => exact (by decide : mOp 6 ≠ 41) | 7, _ => exact (by decide : mOp 7 ≠ 41) | 8, _ => exact (by decide : mOp 8 ≠ 41) | 9, _ => exact (by decide : mOp 9 ≠ 41) | 10, _ => exact (by decide : mOp 10 ≠ 41))
  rw [show mFnN 11 = 41 from rfl] at cD
  obtain ⟨x0, x1, _⟩ := U0.all
  clear my
  go_enter Tryz.func10, Tryz.ntmps10
  go_wp2_with (first
    | (go_at_call 23; (with_reducible refine cM1.mono ?_); rintro e w1 ⟨rfl, k1⟩; have U1 := U0.below k1 s0; have s1 := U1.sz)
    | (go_at_call 24; (with_reducible refine (cD w1).mono ?_); rintro e w3 ⟨rfl, k3⟩; have U3 := U1.below k3 s1; have s3 := U3.sz; have U4 := U3.below (box_below w3 (.cells #[.int .i64 41, .func (.func 41) #[] #[]] 52)) s3; obtain ⟨v0, v1, _⟩ := U4.all)
    | (go_at_call 41; (with_reducible refine (hc _ U4.bel).mono ?_); rintro e w5 ⟨o1, n1, c1, o2, n2, c2, rfl, f1, f2, k5⟩; have U5 := U4.below k5 U4.sz; obtain ⟨u5, v5, hr5⟩ := U5.r; obtain ⟨z0, z1, z2, z3⟩ := box2 hr5))
  (try simp only [Exit.inBlock, Exit.then])
  refine bodyPost_ret (v := .tuple #[.agg #[.slice o1 n1 c1, .slice o2 n2 c2], .int .i64 E]) (by rw [results_cell_tmp rfl]; go_simp) rfl ?_
  exact ⟨o1, n1, c1, o2, n2, c2, rfl, (ft_set (w := w) f1 (by simp; omega) _ _).mono (by simp; omega), (ft_set (w := w) f2 (by simp; omega) _ _).mono (by simp; omega), below_set2 _ _ _ _ U5.bel (by omega) (Nat.le_refl _)⟩

set_option maxHeartbeats 2000000 in
theorem monad_right (so ao : Option Addr) (sn sc an ac : Nat) (sy ay S A : List Int) (E : Int) (w : World) (hsy : Rd w so sn sy) (hay : Rd w ao an ay) (my : mayA sy ay = 0)
    (hc : ∀ V, Below w.heap.size w V → Calls Tryz.prog 41 #[.agg #[.slice so sn sc, .slice ao an ac]] V fun e w' => Ans V V.heap.size S A E e w') :
    Calls Tryz.prog 10 #[.int .i64 42, .agg #[.slice so sn sc, .slice ao an ac]] w fun e w' => Ans w w.heap.size S A E e w' := by
  have U0 := un_start w so sn sc ao an ac
  have s0 := U0.sz
  have cM1 := mayA_any so ao sn sc an ac sy ay _ (hsy.below U0.bel (Nat.le_refl _)) (hay.below U0.bel (Nat.le_refl _))
  rw [my] at cM1
  have cD := fun V => monadOf_yes 42 12 V (by omega) rfl (by intro j hj; match j, hj with | 0, _ => exact (by decide : mOp 0 ≠ 42) | 1, _ => exact (by decide : mOp 1 ≠ 42) | 2, _ => exact (by decide : mOp 2 ≠ 42) | 3, _ => exact (by decide : mOp 3 ≠ 42) | 4, _ => exact (by decide : mOp 4 ≠ 42) | 5, _ => exact (by decide : mOp 5 ≠ 42) | 6, _ => exact (by decide : mOp 6 ≠ 42) | 7, _ => exact (by decide : mOp 7 ≠ 42) | 8, _ => exact (by decide : mOp 8 ≠ 42) | 9, _ => exact (by decide : mOp 9 ≠ 42) | 10, _ => exact (by decide : mOp 10 ≠ 42) | 11, _ => exact (by decide : mOp 11 ≠ 42))
  rw [show mFnN 12 = 41 from rfl] at cD
  obtain ⟨x0, x1, _⟩ := U0.all
  clear my
  go_enter Tryz.func10, Tryz.ntmps10
  go_wp2_with (first
    | (go_at_call 23; (with_reducible refine cM1.mono ?_); rintro e w1 ⟨rfl, k1⟩; have U1 := U0.below k1 s0; have s1 := U1.sz)
    | (go_at_call 24; (with_reducible refine (cD w1).mono ?_); rintro e w3 ⟨rfl, k3⟩; have U3 := U1.below k3 s1; have s3 := U3.sz; have U4 := U3.below (box_below w3 (.cells #[.int .i64 42, .func (.func 41) #[] #[]] 52)) s3; obtain ⟨v0, v1, _⟩ := U4.all)
    | (go_at_call 41; (with_reducible refine (hc _ U4.bel).mono ?_); rintro e w5 ⟨o1, n1, c1, o2, n2, c2, rfl, f1, f2, k5⟩; have U5 := U4.below k5 U4.sz; obtain ⟨u5, v5, hr5⟩ := U5.r; obtain ⟨z0, z1, z2, z3⟩ := box2 hr5))
  (try simp only [Exit.inBlock, Exit.then])
  refine bodyPost_ret (v := .tuple #[.agg #[.slice o1 n1 c1, .slice o2 n2 c2], .int .i64 E]) (by rw [results_cell_tmp rfl]; go_simp) rfl ?_
  exact ⟨o1, n1, c1, o2, n2, c2, rfl, (ft_set (w := w) f1 (by simp; omega) _ _).mono (by simp; omega), (ft_set (w := w) f2 (by simp; omega) _ _).mono (by simp; omega), below_set2 _ _ _ _ U5.bel (by omega) (Nat.le_refl _)⟩

set_option maxHeartbeats 2000000 in
theorem monad_ravel (so ao : Option Addr) (sn sc an ac : Nat) (sy ay S A : List Int) (E : Int) (w : World) (hsy : Rd w so sn sy) (hay : Rd w ao an ay) (my : mayA sy ay = 0)
    (hc : ∀ V, Below w.heap.size w V → Calls Tryz.prog 32 #[.agg #[.slice so sn sc, .slice ao an ac]] V fun e w' => Ans V V.heap.size S A E e w') :
    Calls Tryz.prog 10 #[.int .i64 24, .agg #[.slice so sn sc, .slice ao an ac]] w fun e w' => Ans w w.heap.size S A E e w' := by
  have U0 := un_start w so sn sc ao an ac
  have s0 := U0.sz
  have cM1 := mayA_any so ao sn sc an ac sy ay _ (hsy.below U0.bel (Nat.le_refl _)) (hay.below U0.bel (Nat.le_refl _))
  rw [my] at cM1
  have cD := fun V => monadOf_yes 24 2 V (by omega) rfl (by intro j hj; match j, hj with | 0, _ => exact (by decide : mOp 0 ≠ 24) | 1, _ => exact (by decide : mOp 1 ≠ 24))
  rw [show mFnN 2 = 32 from rfl] at cD
  obtain ⟨x0, x1, _⟩ := U0.all
  clear my
  go_enter Tryz.func10, Tryz.ntmps10
  go_wp2_with (first
    | (go_at_call 23; (with_reducible refine cM1.mono ?_); rintro e w1 ⟨rfl, k1⟩; have U1 := U0.below k1 s0; have s1 := U1.sz)
    | (go_at_call 24; (with_reducible refine (cD w1).mono ?_); rintro e w3 ⟨rfl, k3⟩; have U3 := U1.below k3 s1; have s3 := U3.sz; have U4 := U3.below (box_below w3 (.cells #[.int .i64 24, .func (.func 32) #[] #[]] 52)) s3; obtain ⟨v0, v1, _⟩ := U4.all)
    | (go_at_call 32; (with_reducible refine (hc _ U4.bel).mono ?_); rintro e w5 ⟨o1, n1, c1, o2, n2, c2, rfl, f1, f2, k5⟩; have U5 := U4.below k5 U4.sz; obtain ⟨u5, v5, hr5⟩ := U5.r; obtain ⟨z0, z1, z2, z3⟩ := box2 hr5))
  (try simp only [Exit.inBlock, Exit.then])
  refine bodyPost_ret (v := .tuple #[.agg #[.slice o1 n1 c1, .slice o2 n2 c2], .int .i64 E]) (by rw [results_cell_tmp rfl]; go_simp) rfl ?_
  exact ⟨o1, n1, c1, o2, n2, c2, rfl, (ft_set (w := w) f1 (by simp; omega) _ _).mono (by simp; omega), (ft_set (w := w) f2 (by simp; omega) _ _).mono (by simp; omega), below_set2 _ _ _ _ U5.bel (by omega) (Nat.le_refl _)⟩

set_option maxHeartbeats 2000000 in
theorem monad_shape (so ao : Option Addr) (sn sc an ac : Nat) (sy ay S A : List Int) (E : Int) (w : World) (hsy : Rd w so sn sy) (hay : Rd w ao an ay) (my : mayA sy ay = 0)
    (hc : ∀ V, Below w.heap.size w V → Calls Tryz.prog 31 #[.agg #[.slice so sn sc, .slice ao an ac]] V fun e w' => Ans V V.heap.size S A E e w') :
    Calls Tryz.prog 10 #[.int .i64 23, .agg #[.slice so sn sc, .slice ao an ac]] w fun e w' => Ans w w.heap.size S A E e w' := by
  have U0 := un_start w so sn sc ao an ac
  have s0 := U0.sz
  have cM1 := mayA_any so ao sn sc an ac sy ay _ (hsy.below U0.bel (Nat.le_refl _)) (hay.below U0.bel (Nat.le_refl _))
  rw [my] at cM1
  have cD := fun V => monadOf_yes 23 1 V (by omega) rfl (by intro j hj; match j, hj with | 0, _ => exact (by decide : mOp 0 ≠ 23))
  rw [show mFnN 1 = 31 from rfl] at cD
  obtain ⟨x0, x1, _⟩ := U0.all
  clear my
  go_enter Tryz.func10, Tryz.ntmps10
  go_wp2_with (first
    | (go_at_call 23; (with_reducible refine cM1.mono ?_); rintro e w1 ⟨rfl, k1⟩; have U1 := U0.below k1 s0; have s1 := U1.sz)
    | (go_at_call 24; (with_reducible refine (cD w1).mono ?_); rintro e w3 ⟨rfl, k3⟩; have U3 := U1.below k3 s1; have s3 := U3.sz; have U4 := U3.below (box_below w3 (.cells #[.int .i64 23, .func (.func 31) #[] #[]] 52)) s3; obtain ⟨v0, v1, _⟩ := U4.all)
    | (go_at_call 31; (with_reducible refine (hc _ U4.bel).mono ?_); rintro e w5 ⟨o1, n1, c1, o2, n2, c2, rfl, f1, f2, k5⟩; have U5 := U4.below k5 U4.sz; obtain ⟨u5, v5, hr5⟩ := U5.r; obtain ⟨z0, z1, z2, z3⟩ := box2 hr5))
  (try simp only [Exit.inBlock, Exit.then])
  refine bodyPost_ret (v := .tuple #[.agg #[.slice o1 n1 c1, .slice o2 n2 c2], .int .i64 E]) (by rw [results_cell_tmp rfl]; go_simp) rfl ?_
  exact ⟨o1, n1, c1, o2, n2, c2, rfl, (ft_set (w := w) f1 (by simp; omega) _ _).mono (by simp; omega), (ft_set (w := w) f2 (by simp; omega) _ _).mono (by simp; omega), below_set2 _ _ _ _ U5.bel (by omega) (Nat.le_refl _)⟩

end Go.Proofs.YtpfdiammgdnhmaaGreat


namespace Go.Proofs.YtpfdiammgdnhmaaGreat

open Go.RowKit

set_option linter.unusedVariables false

def bkA (sh at' : List Int) : List Int := match sh with | [] => at' | z :: r => gth at' (bkX (z :: r))
theorem bkA_may {sh at' : List Int} (my : mayA sh at' = 0) : mayA sh (bkA sh at') = 0 := by
  cases sh with
  | nil => exact my
  | cons z r => exact bk_may (mayA_zero my).1
theorem bkA_twice {sh at' : List Int} (my : mayA sh at' = 0) : bkA sh (bkA sh at') = at' := by
  cases sh with
  | nil => rfl
  | cons z r => exact bk_twice (mayA_zero my).1 (mayA_zero my).2
theorem rev_m (so ao : Option Addr) (sn sc an ac : Nat) (sh at' : List Int) (w : World) (hs : Rd w so sn sh) (ha : Rd w ao an at') (my : mayA sh at' = 0) :
    Calls Tryz.prog 10 #[.int .i64 32, .agg #[.slice so sn sc, .slice ao an ac]] w fun e w' => Ans w w.heap.size sh (bkA sh at') 0 e w' := by
  refine monad_rev so ao sn sc an ac sh at' _ _ 0 w hs ha my (fun V k => ?_)
  cases sh with
  | nil =>
    obtain rfl : sn = 0 := hs.len.symm
    exact reverse_sc so ao sc an ac at' V (hs.below k (Nat.le_refl _)) (ha.below k (Nat.le_refl _)) my
  | cons z r => exact reverse_in so ao sn sc an ac z r at' V (hs.below k (Nat.le_refl _)) (ha.below k (Nat.le_refl _)) my
theorem tran_m (so ao : Option Addr) (sn sc an ac : Nat) (sh at' : List Int) (w : World) (hs : Rd w so sn sh) (ha : Rd w ao an at') (my : mayA sh at' = 0) :
    Calls Tryz.prog 10 #[.int .i64 33, .agg #[.slice so sn sc, .slice ao an ac]] w fun e w' => Ans w w.heap.size sh.reverse (gth at' (axsOf sh).reverse) 0 e w' := by
  obtain ⟨m1, m2⟩ := mayA_zero my
  have hz := (mayF_zero m1).1
  have eL := lens_tp hz
  have eM := mayF_rev m1
  refine monad_tran so ao sn sc an ac sh at' _ _ 0 w hs ha my (fun V k => ?_)
  have := transpose_any so ao sn sc an ac sh at' V (hs.below k (Nat.le_refl _)) (ha.below k (Nat.le_refl _)) m1 (fun _ => pls_tp_in hz (by rw [← ha.len]; exact m2))
  rw [eL, eM, show filS sh.reverse = sh.reverse from if_pos eM, show gthS at' (axsOf sh).reverse = gth at' (axsOf sh).reverse by unfold gthS; rw [eL, if_pos eM]] at this
  exact this
theorem rev2_any (so ao : Option Addr) (sn sc an ac : Nat) (sh at' : List Int) (w : World) (hs : Rd w so sn sh) (ha : Rd w ao an at') (my : mayA sh at' = 0) :
    Calls Tryz.prog 11 #[.int .i64 32, .int .i64 32, .agg #[.slice so sn sc, .slice ao an ac]] w fun e w' => ∃ o3 n3 c3 o4 n4 c4, e = .returned (.tuple #[.agg #[.slice o3 n3 c3, .slice o4 n4 c4], .bool true]) ∧ Ft 3 w' w.heap.size o3 n3 c3 sh ∧ Ft 2 w' w.heap.size o4 n4 c4 at' ∧ Below w.heap.size w w' := by
  refine then_any 32 32 so ao sn sc an ac sh (bkA sh at') sh at' w (fun V k => rev_m so ao sn sc an ac sh at' V (hs.below k (Nat.le_refl _)) (ha.below k (Nat.le_refl _)) my) (fun V o1 n1 c1 o2 n2 c2 r1 s1 r2 s2 => ?_)
  have := rev_m o1 o2 n1 c1 n2 c2 sh (bkA sh at') V r1 r2 (bkA_may my)
  rw [bkA_twice my] at this
  exact this
theorem tran2_any (so ao : Option Addr) (sn sc an ac : Nat) (sh at' : List Int) (w : World) (hs : Rd w so sn sh) (ha : Rd w ao an at') (my : mayA sh at' = 0) :
    Calls Tryz.prog 11 #[.int .i64 33, .int .i64 33, .agg #[.slice so sn sc, .slice ao an ac]] w fun e w' => ∃ o3 n3 c3 o4 n4 c4, e = .returned (.tuple #[.agg #[.slice o3 n3 c3, .slice o4 n4 c4], .bool true]) ∧ Ft 3 w' w.heap.size o3 n3 c3 sh ∧ Ft 2 w' w.heap.size o4 n4 c4 at' ∧ Below w.heap.size w w' := by
  obtain ⟨m1, m2⟩ := mayA_zero my
  refine then_any 33 33 so ao sn sc an ac sh.reverse (gth at' (axsOf sh).reverse) sh at' w (fun V k => tran_m so ao sn sc an ac sh at' V (hs.below k (Nat.le_refl _)) (ha.below k (Nat.le_refl _)) my) (fun V o1 n1 c1 o2 n2 c2 r1 s1 r2 s2 => ?_)
  have := tran_m o1 o2 n1 c1 n2 c2 sh.reverse _ V r1 r2 (tp_may my)
  rw [List.reverse_reverse, tp_twice (mayF_zero m1).1 m2] at this
  exact this
theorem left_does (so ao : Option Addr) (sn sc an ac : Nat) (sh at' : List Int) (w : World) (hs : Rd w so sn sh) (ss : Sl so sn sc) (ha : Rd w ao an at') (sa : Sl ao an ac) (my : mayA sh at' = 0) :
    Calls Tryz.prog 13 #[.int .i64 41, .agg #[.slice so sn sc, .slice ao an ac], .agg #[.slice so sn sc, .slice ao an ac]] w fun e w' => e = .returned (.bool true) ∧ Below w.heap.size w w' :=
  does_any 41 so ao sn sc an ac so ao sn sc an ac sh at' w hs ha (fun V k => monad_left so ao sn sc an ac sh at' sh at' 0 V (hs.below k (Nat.le_refl _)) (ha.below k (Nat.le_refl _)) my (fun V2 k2 => itself_any so ao sn sc an ac sh at' V2 ((hs.below k (Nat.le_refl _)).below k2 (Nat.le_refl _)) ss ((ha.below k (Nat.le_refl _)).below k2 (Nat.le_refl _)) sa))
theorem right_does (so ao : Option Addr) (sn sc an ac : Nat) (sh at' : List Int) (w : World) (hs : Rd w so sn sh) (ss : Sl so sn sc) (ha : Rd w ao an at') (sa : Sl ao an ac) (my : mayA sh at' = 0) :
    Calls Tryz.prog 13 #[.int .i64 42, .agg #[.slice so sn sc, .slice ao an ac], .agg #[.slice so sn sc, .slice ao an ac]] w fun e w' => e = .returned (.bool true) ∧ Below w.heap.size w w' :=
  does_any 42 so ao sn sc an ac so ao sn sc an ac sh at' w hs ha (fun V k => monad_right so ao sn sc an ac sh at' sh at' 0 V (hs.below k (Nat.le_refl _)) (ha.below k (Nat.le_refl _)) my (fun V2 k2 => itself_any so ao sn sc an ac sh at' V2 ((hs.below k (Nat.le_refl _)).below k2 (Nat.le_refl _)) ss ((ha.below k (Nat.le_refl _)).below k2 (Nat.le_refl _)) sa))
theorem shape_m (so ao : Option Addr) (sn sc an ac : Nat) (sh at' : List Int) (w : World) (hs : Rd w so sn sh) (ha : Rd w ao an at') (my : mayA sh at' = 0) :
    Calls Tryz.prog 10 #[.int .i64 23, .agg #[.slice so sn sc, .slice ao an ac]] w fun e w' => Ans w w.heap.size [(sn : Int)] sh 0 e w' :=
  monad_shape so ao sn sc an ac sh at' _ _ 0 w hs ha my (fun V k => tellShape_any so ao sn sc an ac sh V (hs.below k (Nat.le_refl _)) (by rw [← hs.len]; exact (mayF_zero (mayA_zero my).1).2.1))
theorem atoms4 {sh at' : List Int} (my : mayA sh at' = 0) : at'.length ≤ 4096 := by
  have := drop_small (mayA_zero my).1 0
  rw [List.drop_zero] at this
  have := (mayA_zero my).2
  omega
theorem list_may {an : Nat} {at' : List Int} (hl : at'.length = an) (h4 : an ≤ 4096) : mayA [(an : Int)] at' = 0 := by
  refine mayA_ok (mayF_ok (fun k hk => ?_) (by simp) ?_) ?_
  · match k, hk with
    | 0, _ => show (0 : Int) ≤ (an : Int); omega
  · rw [pz_cons, pz_nil]; split <;> omega
  · rw [pr_cons]; show (at'.length : Int) = (an : Int) * pr []; rw [show pr [] = 1 from rfl]; omega
theorem ravel_m (so ao : Option Addr) (sn sc an ac : Nat) (sh at' : List Int) (w : World) (hs : Rd w so sn sh) (ha : Rd w ao an at') (sa : Sl ao an ac) (my : mayA sh at' = 0) :
    Calls Tryz.prog 10 #[.int .i64 24, .agg #[.slice so sn sc, .slice ao an ac]] w fun e w' => Ans w w.heap.size [(an : Int)] at' 0 e w' :=
  monad_ravel so ao sn sc an ac sh at' _ _ 0 w hs ha my (fun V k => ravel_any so ao sn sc an ac at' V (ha.below k (Nat.le_refl _)) sa (by rw [← ha.len]; exact atoms4 my))
theorem ravel_does (so ao : Option Addr) (sn sc an ac : Nat) (at' : List Int) (w : World) (hs : Rd w so sn [(an : Int)]) (ha : Rd w ao an at') (sa : Sl ao an ac) (h4 : an ≤ 4096) :
    Calls Tryz.prog 13 #[.int .i64 24, .agg #[.slice so sn sc, .slice ao an ac], .agg #[.slice so sn sc, .slice ao an ac]] w fun e w' => e = .returned (.bool true) ∧ Below w.heap.size w w' :=
  does_any 24 so ao sn sc an ac so ao sn sc an ac [(an : Int)] at' w hs ha (fun V k => ravel_m so ao sn sc an ac _ at' V (hs.below k (Nat.le_refl _)) (ha.below k (Nat.le_refl _)) sa (list_may ha.len h4))
theorem rsL_self {at' : List Int} {an : Nat} (h : at'.length = an) : rsL an an at' an = at' := by
  unfold rsL
  refine Eq.trans ?_ (list_range at')
  rw [h]
  apply List.map_congr_left
  intro t ht
  have := List.mem_range.1 ht
  rw [if_pos this, Nat.mod_eq_of_lt this]
set_option maxHeartbeats 2000000 in
/-- both, of PShape: an array out of its shape and its atoms. -/
theorem both_shape (xso xo so ao yo bo : Option Addr) (xsn xsc xn xc sn sc an ac tn tc bn bc : Nat) (sh at' : List Int) (w : World) (hsx : Rd w xso xsn [(xn : Int)]) (hax : Rd w xo xn sh) (hsy : Rd w so sn [(an : Int)]) (ssy : Sl so sn sc) (hay : Rd w ao an at') (ht : Rd w yo tn sh) (hb : Rd w bo bn at') (my : mayA sh at' = 0) (han : 0 < an) :
    Calls Tryz.prog 15 #[.int .i64 23, .agg #[.slice xso xsn xsc, .slice xo xn xc], .agg #[.slice so sn sc, .slice ao an ac], .agg #[.slice yo tn tc, .slice bo bn bc]] w fun e w' => e = .returned (.bool true) ∧ Below w.heap.size w w' := by
  obtain ⟨m1, m2⟩ := mayA_zero my
  have hx8 : xn ≤ 8 := by rw [← hax.len]; exact (mayF_zero m1).2.1
  have hz := (mayF_zero m1).1
  have h4 : an ≤ 4096 := by rw [← hay.len]; exact atoms4 my
  have hal := hay.len
  have k3 := three_below w (.cells #[.slice xso xsn xsc, .slice xo xn xc] 25) (.cells #[.slice so sn sc, .slice ao an ac] 25) (.cells #[.slice yo tn tc, .slice bo bn bc] 25)
  have b2 := allocNew ((w.alloc (.cells #[.slice xso xsn xsc, .slice xo xn xc] 25)).alloc (.cells #[.slice so sn sc, .slice ao an ac] 25)) (.cells #[.slice yo tn tc, .slice bo bn bc] 25)
  simp only [World.size_alloc] at b2
  have cR := dyad_shape xso xo so ao xsn xsc xn xc sn sc an ac [(xn : Int)] sh [(an : Int)] at' sh at' 0 _ (hsx.below k3 (Nat.le_refl _)) (hax.below k3 (Nat.le_refl _)) (hsy.below k3 (Nat.le_refl _)) (hay.below k3 (Nat.le_refl _)) (list_may hax.len (by omega)) (list_may hay.len h4) (by have := hsx.len; simp at this; omega) (fun V k => by
    have kk := k3.trans (k.mono k3.size)
    have e0 : sh ++ [(an : Int)].drop 1 = sh := by simp
    have ep : (pr sh).toNat = an := by omega
    have := reshape_any xso xo so ao xsn xsc xn xc sn sc an ac sh [(an : Int)] at' V (hax.below kk (Nat.le_refl _)) (hsy.below kk (Nat.le_refl _)) ssy (hay.below kk (Nat.le_refl _)) (list_may hay.len h4) (fun k hk => hz k (by rw [hax.len]; exact hk)) (by omega) (by rw [e0]; exact m1) han (by rw [e0]; omega)
    rw [e0, ep, rsL_self hal] at this
    exact this)
  have cE := fun V o1 n1 c1 o2 n2 c2 (h1 : Rd V o1 n1 sh) (h2 : Rd V o2 n2 at') (k : Below w.heap.size w V) => eq4_any o1 o2 yo bo n1 c1 n2 c2 tn tc bn bc sh at' sh at' V h1 h2 (ht.below k (Nat.le_refl _)) (hb.below k (Nat.le_refl _))
  rw [show eqA sh at' sh at' = true from eqA_refl sh at'] at cE
  clear my m1 m2 hz hal
  go_enter Tryz.func15, Tryz.ntmps15
  go_wp2_with (first
    | (go_at_call 17; (with_reducible refine cR.mono ?_); rintro e w5 ⟨o1, n1, c1, o2, n2, c2, rfl, f1, f2, k5⟩; have K5 : Below w.heap.size w w5 := k3.trans (k5.mono k3.size); have T5 := (k5.block (w.heap.size + 1 + 1) (by simp)).trans b2; have kb := box_below w5 (.cells #[.slice o1 n1 c1, .slice o2 n2 c2] 25); have K6 := K5.trans (kb.mono K5.size); have T6 := (kb.block _ (Array.getElem?_eq_some_iff.1 T5).1).trans T5; obtain ⟨y0, y1, _, _⟩ := box2 T6)
    | (go_at_call 12; (with_reducible refine (cE _ o1 n1 c1 o2 n2 c2 (f1.rd.below kb (Nat.le_refl _)) (f2.rd.below kb (Nat.le_refl _)) K6).mono ?_); rintro e w7 ⟨rfl, k7⟩))
  go_ret
  exact ⟨rfl, K6.trans (k7.mono K6.size)⟩
end Go.Proofs.YtpfdiammgdnhmaaGreat
