
/- MoldMoves: the numbers; a list of any length; what is refused. -/

import Derived.Test.YtldhochafkcpiaaGreatAR5
import Derived.Test.YtldhochafkcpiaaGreatRB
import Derived.Test.YtldhochafkcpiaaGreatJJb
import Derived.Test.YtldhochafkcpiaaGreatMZ




namespace Go.Proofs.YtldhochafkcpiaaGreat

open Go.RowKit

set_option linter.unusedVariables false

/-! ### the way back -/

theorem perm_at {n : Nat} {pi : List Nat} (hp : pi.Perm (List.range n)) {k : Nat} (hk : k < n) : ∃ j, j < n ∧ pi.getD j 0 = k := by
  have hl : pi.length = n := by simpa using hp.length_eq
  obtain ⟨j, hj, e⟩ := List.getElem_of_mem (hp.mem_iff.2 (List.mem_range.2 hk))
  refine ⟨j, by omega, ?_⟩
  rw [List.getD_eq_getElem?_getD, List.getElem?_eq_getElem hj]; exact e
theorem perm_lt {n : Nat} {pi : List Nat} (hp : pi.Perm (List.range n)) {j : Nat} (hj : j < n) : pi.getD j 0 < n := by
  have hl : pi.length = n := by simpa using hp.length_eq
  exact List.mem_range.1 (hp.mem_iff.1 (getD_mem (by omega)))
theorem perm_inj {n : Nat} {pi : List Nat} (hp : pi.Perm (List.range n)) {i j : Nat} (hi : i < n) (hj : j < n) (h : pi.getD i 0 = pi.getD j 0) : i = j := by
  have hl : pi.length = n := by simpa using hp.length_eq
  have nd : pi.Nodup := hp.nodup_iff.2 List.nodup_range
  rw [List.getD_eq_getElem?_getD, List.getD_eq_getElem?_getD, List.getElem?_eq_getElem (by omega), List.getElem?_eq_getElem (by omega)] at h
  have h' : pi[i] = pi[j] := h
  have key := List.pairwise_iff_getElem.1 nd
  rcases Nat.lt_trichotomy i j with c | c | c
  · exact absurd h' (key i j (by omega) (by omega) c)
  · exact c
  · exact absurd h'.symm (key j i (by omega) (by omega) c)
structure Bck (n : Nat) (pi : List Nat) (B : List Int) : Prop where
  len : B.length = n
  at' : ∀ j, j < n → nth B (pi.getD j 0) = j
theorem Bck.val {n : Nat} {pi : List Nat} {B : List Int} (h : Bck n pi B) (hp : pi.Perm (List.range n)) {k : Nat} (hk : k < n) : ∃ j, j < n ∧ pi.getD j 0 = k ∧ nth B k = j := by
  obtain ⟨j, hj, e⟩ := perm_at hp hk
  exact ⟨j, hj, e, by rw [← e]; exact h.at' j hj⟩
theorem nrm_nat (n j : Nat) : nrm n (j : Int) = j := by unfold nrm; rw [if_neg (by omega)]; simp
theorem Bck.sen {n : Nat} {pi : List Nat} {B : List Int} (h : Bck n pi B) (hp : pi.Perm (List.range n)) {k : Nat} (hk : k < n) : (sen n B n).getD k 0 = (nth B k).toNat := by
  obtain ⟨j, hj, e, v⟩ := h.val hp hk
  have hl := h.len
  unfold Proofs.YtldhochafkcpiaaGreat.sen
  rw [← hl, List.take_length, List.getD_eq_getElem?_getD, List.getElem?_map, List.getElem?_eq_getElem (by omega)]
  have v' : B[k]'(by omega) = (j : Int) := by
    have := v
    unfold nth at this
    rw [List.getD_eq_getElem?_getD, List.getElem?_eq_getElem (by omega)] at this
    exact this
  simp only [Option.map_some, Option.getD_some]
  rw [v', v, hl, nrm_nat]; simp
theorem Bck.inj {n : Nat} {pi : List Nat} {B : List Int} (h : Bck n pi B) (hp : pi.Perm (List.range n)) {i k : Nat} (hi : i < n) (hk : k < n) (e : nth B i = nth B k) : i = k := by
  obtain ⟨j, hj, e1, v1⟩ := h.val hp hi
  obtain ⟨j2, hj2, e2, v2⟩ := h.val hp hk
  have : j = j2 := by omega
  rw [← e1, ← e2, this]
theorem Bck.gd {n : Nat} {pi : List Nat} {B : List Int} (h : Bck n pi B) (hp : pi.Perm (List.range n)) : Gd n B := by
  intro k hk
  rw [h.len] at hk
  obtain ⟨j, hj, e, v⟩ := h.val hp hk
  refine ⟨by omega, by omega, ?_⟩
  cases hc : (Proofs.YtldhochafkcpiaaGreat.sen n B k).contains (nrm n (nth B k)) with
  | false => rfl
  | true =>
    exfalso
    have hm : nrm n (nth B k) ∈ Proofs.YtldhochafkcpiaaGreat.sen n B k := by simpa using hc
    unfold Proofs.YtldhochafkcpiaaGreat.sen at hm
    obtain ⟨z, hz, ez⟩ := List.mem_map.1 hm
    obtain ⟨i, hi, ei⟩ := List.getElem_of_mem hz
    have hik : i < k := by simp at hi; omega
    have hin : i < n := by omega
    obtain ⟨j2, hj2, e2, v2⟩ := h.val hp hin
    have hzi : z = nth B i := by
      rw [← ei, List.getElem_take]
      unfold nth
      rw [List.getD_eq_getElem?_getD, List.getElem?_eq_getElem (by rw [h.len]; omega)]; rfl
    rw [hzi, v, v2, nrm_nat, nrm_nat] at ez
    have := h.inj hp hin hk (by rw [v, v2, ez])
    omega
theorem Bck.perm {n : Nat} {pi : List Nat} {B : List Int} (h : Bck n pi B) (hp : pi.Perm (List.range n)) : (Proofs.YtldhochafkcpiaaGreat.sen n B n).Perm (List.range n) ∧ prm n B = Proofs.YtldhochafkcpiaaGreat.sen n B n := by
  have G := h.gd hp
  have hpp := G.perm
  have hl := h.len
  have key : (Proofs.YtldhochafkcpiaaGreat.sen n B n).Perm (List.range n) := by
    have nd := (G.sen n (by omega)).1
    refine (List.perm_ext_iff_of_nodup nd List.nodup_range).2 fun a => ?_
    constructor
    · intro ha; exact List.mem_range.2 ((G.sen n (by omega)).2 a ha)
    · intro ha
      have ha' := List.mem_range.1 ha
      have hk := perm_lt hp ha'
      have e := h.sen hp hk
      rw [h.at' a ha'] at e
      have hlen : (Proofs.YtldhochafkcpiaaGreat.sen n B n).length = n := sen_len (by omega)
      have := getD_mem (l := Proofs.YtldhochafkcpiaaGreat.sen n B n) (k := pi.getD a 0) (by omega)
      rw [e] at this
      simpa using this
  refine ⟨key, ?_⟩
  unfold prm
  rw [hl, rst_full key, List.nil_append]
theorem Bck.back {n : Nat} {pi : List Nat} {B : List Int} (h : Bck n pi B) (hp : pi.Perm (List.range n)) : ∀ k, k < n → pi.getD ((Proofs.YtldhochafkcpiaaGreat.sen n B n).getD k 0) 0 = k := by
  intro k hk
  obtain ⟨j, hj, e, v⟩ := h.val hp hk
  rw [h.sen hp hk, v, Int.toNat_natCast, e]

/-! ### a list of any length; what is refused -/

set_option maxHeartbeats 1000000 in
theorem list6_gen (ao : Option Addr) (n c : Nat) (zs : List Int) (w : World) (h : Rd w ao n zs) (hs : Sl ao n c) : Calls Tryz.prog 6 #[.slice ao n c] w fun e w' => ∃ o1 o2 c2, e = .returned (.agg #[.slice (some o1) 1 1, .slice o2 n c2]) ∧ Ft 3 w' w.heap.size (some o1) 1 1 [(n : Int)] ∧ Ft 2 w' w.heap.size o2 n c2 zs ∧ Below w.heap.size w w' := by
  have hr := h.room
  have b0 := allocNew w (.cells #[.slice none 0 0, .slice none 0 0] 25)
  have k0 := box_below w (.cells #[.slice none 0 0, .slice none 0 0] 25)
  have f1 := ft_new 3 (w.alloc (.cells #[.slice none 0 0, .slice none 0 0] 25)) [(n : Int)] (by simp) (num1 (by omega) (by omega))
  have k1 := box_below (w.alloc (.cells #[.slice none 0 0, .slice none 0 0] 25)) (.cells #[.int .i64 (n : Nat)] 3)
  rw [World.size_alloc] at f1
  go_enter Tryz.func6, Tryz.ntmps6
  go_wp2_with (at_builtin; refine wpList_joinT tyL rfl _ _ rfl (w.heap.size + 2) none ao 0 0 n c [] zs rfl rfl (Ft.nil _ _ _) ((h.below k0 (Nat.le_refl _)).below k1 (Nat.le_refl _)) hs (by omega) (by simp) ?_; intro co c2 w1 hf hb1; rw [Nat.zero_add, List.nil_append] at hf; have r1 := (hb1.block w.heap.size (by omega)).trans ((k1.block w.heap.size (by simp)).trans b0); obtain ⟨y0, y1, z0, z1⟩ := box2 r1)
  (try simp only [Exit.inBlock, Exit.then])
  refine bodyPost_ret (v := .agg #[.slice (some ⟨w.heap.size + 1, 0, none⟩) 1 1, .slice co n c2]) (by simp [results, Tryz.results6]; go_simp) rfl ?_
  have f1' := f1.below hb1 (by simp)
  refine ⟨_, _, _, rfl, (ft_set (w := w) f1' (by omega) _ _).mono (by omega), (ft_set (w := w) hf (by omega) _ _).mono (by omega), below_set2 _ _ _ _ ((k0.trans (k1.mono (by simp))).trans (hb1.mono (by omega))) (Nat.le_refl _) (Nat.le_refl _)⟩
set_option maxHeartbeats 1000000 in
theorem dyad33_bad (xso xo so ao : Option Addr) (xsn xsc xn xc sn sc an ac : Nat) (sx ax sy ay : List Int) (w : World) (hsx : Rd w xso xsn sx) (hax : Rd w xo xn ax) (hsy : Rd w so sn sy) (hay : Rd w ao an ay) (hm : mayA sx ax ≠ 0 ∨ mayA sy ay ≠ 0) :
    Calls Tryz.prog 5 #[.int .i64 33, .agg #[.slice xso xsn xsc, .slice xo xn xc], .agg #[.slice so sn sc, .slice ao an ac]] w fun e w' => Ans w w.heap.size [] [] 1 e w' := by
  have D0 := dw_start w xso xsn xsc xo xn xc so sn sc ao an ac
  have cM1 := mayA_any xso xo xsn xsc xn xc sx ax _ (hsx.below D0.bel (Nat.le_refl _)) (hax.below D0.bel (Nat.le_refl _))
  have cM2 := fun V (D : Dw w V xso xsn xsc xo xn xc so sn sc ao an ac) => mayA_any so ao sn sc an ac sy ay V (hsy.below D.bel (Nat.le_refl _)) (hay.below D.bel (Nat.le_refl _))
  obtain ⟨x0, x1, x2, x3, _⟩ := D0.all
  by_cases h1 : mayA sx ax = 0
  · have h2 : mayA sy ay ≠ 0 := hm.resolve_left (fun h => h h1)
    have t2 : (mayA sy ay != 0) = true := by simpa using h2
    rw [h1] at cM1
    clear hm h1 h2
    go_enter Tryz.func5, Tryz.ntmps5
    go_wp2_with (first
      | (go_at_call 16; (with_reducible refine cM1.mono ?_); rintro e w1 ⟨rfl, k1⟩; have D1 := D0.below k1 (Nat.le_refl _); obtain ⟨y0, y1, y2, y3, _⟩ := D1.all)
      | (go_at_call 16; (with_reducible refine (cM2 w1 D1).mono ?_); rintro e w2 ⟨rfl, k2⟩; have D2 := D1.below k2 (Nat.le_refl _); obtain ⟨u5, v5, hr5⟩ := D2.r; obtain ⟨z0, z1, z2, z3⟩ := box2 hr5))
    (try simp only [Exit.inBlock, Exit.then])
    refine bodyPost_ret (v := .tuple #[.agg #[.slice none 0 0, .slice none 0 0], .int .i64 1]) (by rw [results_cell_tmp rfl]; go_simp) rfl ?_
    exact ⟨none, 0, 0, none, 0, 0, rfl, Ft.nil _ _ _, Ft.nil _ _ _, below_set2 _ _ _ _ D2.bel (by omega) (Nat.le_refl _)⟩
  · have t1 : (mayA sx ax != 0) = true := by simpa using h1
    clear hm h1
    go_enter Tryz.func5, Tryz.ntmps5
    go_wp2_with (go_at_call 16; (with_reducible refine cM1.mono ?_); rintro e w1 ⟨rfl, k1⟩; have D1 := D0.below k1 (Nat.le_refl _); obtain ⟨u5, v5, hr5⟩ := D1.r; obtain ⟨z0, z1, z2, z3⟩ := box2 hr5)
    (try simp only [Exit.inBlock, Exit.then])
    refine bodyPost_ret (v := .tuple #[.agg #[.slice none 0 0, .slice none 0 0], .int .i64 1]) (by rw [results_cell_tmp rfl]; go_simp) rfl ?_
    exact ⟨none, 0, 0, none, 0, 0, rfl, Ft.nil _ _ _, Ft.nil _ _ _, below_set2 _ _ _ _ D1.bel (by omega) (Nat.le_refl _)⟩
end Go.Proofs.YtldhochafkcpiaaGreat
