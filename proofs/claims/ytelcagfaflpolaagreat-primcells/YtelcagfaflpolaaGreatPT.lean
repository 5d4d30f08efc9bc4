
/- PrimCells: digit's monads, by lists; the whole law. -/

import Derived.Test.YtelcagfaflpolaaGreatPSa
import Derived.Test.YtelcagfaflpolaaGreatZO


namespace Go.Proofs.YtelcagfaflpolaaGreat

open Go.RowKit

set_option linter.unusedVariables false

/-- The law, where it is known what is done with each cell and with the whole. -/
theorem cells_main (so ao : Option Addr) (sn sc an ac : Nat) (sy ay : List Int) (w : World) (hsy : Rd w so sn sy) (ssy : Sl so sn sc) (hay : Rd w ao an ay) (say : Sl ao an ac) (k : Nat) (hk : k < 43) (hm : pMb k = true) (r1 : -9223372036854775808 ≤ pR k) (r2 : pR k ≤ 9223372036854775807) (my : mayA sy ay = 0) (hf : frm sy (pR k) ≠ []) (hn : npl sy (pR k) ≠ 0) (gE : Nat → Int) (ys : Nat → List Int × List Int)
    (hmk : MonK w ((k : Int) + 1) (npl sy (pR k)) (cls sy ay (pR k)) gE ys)
    (hmy : ∀ V, Below w.heap.size w V → Calls Tryz.prog 16 #[.int .i64 ((k : Int) + 1), .agg #[.slice so sn sc, .slice ao an ac]] V fun e w' => AnsP V (lF gE (frm sy (pR k)) ys (npl sy (pR k))) (lS gE (frm sy (pR k)) ys (npl sy (pR k))) (lA gE (frm sy (pR k)) ys (npl sy (pR k))) e w') :
    Calls Tryz.prog 4 #[.int .i64 ((k : Int) + 1), .agg #[.slice so sn sc, .slice ao an ac]] w fun e w' => e = .returned (.bool true) ∧ Below w.heap.size w w' := by
  have K := bk_of (pR k) my
  have hb := K.beg (by omega)
  have hpr := K.n
  have n5 : npl sy (pR k) ≤ 4096 := by have := (prF_bd K.mf).2; omega
  have hi := info_yes k hk
  rw [hm] at hi
  have hone := fun V (x : Rd V so sn sy) (y : Rd V ao an ay) => one_ok so ao sn sc an ac sy ay (pR k) V x ssy y say my r1 r2
  generalize hE : lF gE (frm sy (pR k)) ys (npl sy (pR k)) = E at *
  by_cases c : E = 0
  · rw [c] at hE hmy
    obtain ⟨u1, u2⟩ := lS_ok hE
    exact cells_mok so ao sn sc an ac sy ay w hsy ssy hay say 0 k _ _ _ _ _ _ _ _ my _ _ _ _ _ n5 hone hf gE ys hb hpr hmk 0 _ _ hmy hE rfl ⟨u1, u2⟩ hi
  · have hne : lF gE (frm sy (pR k)) ys (npl sy (pR k)) ≠ 0 := by rw [hE]; exact c
    obtain ⟨m, hmn, h0, h1⟩ := lF_first hne
    obtain ⟨u1, u2⟩ := lS_no hne
    by_cases cg : gE m = 0
    · have ej : lE gE (frm sy (pR k)) ys m = jA (frm sy (pR k)) ys m := if_pos cg
      rw [ej] at h1
      have e := lF_add h0 hmn cg h1
      rw [hE] at e
      exact cells_madd so ao sn sc an ac sy ay w hsy ssy hay say 0 k _ _ _ _ _ _ _ _ my _ _ _ _ _ n5 hone hf gE ys hb hpr hmk E _ _ hmy m hmn h0 cg e.symm c ⟨u1, u2⟩ hi
    · have e := lF_do h0 hmn cg
      rw [hE] at e
      exact cells_mdo so ao sn sc an ac sy ay w hsy ssy hay say 0 k _ _ _ _ _ _ _ _ my _ _ _ _ _ n5 hone hf gE ys hb hpr hmk E _ _ hmy m hmn h0 e.symm c ⟨u1, u2⟩ hi

/-! Atom's monads: their cells are atoms. -/

theorem frm_zero (sy : List Int) : frm sy 0 = sy ∧ inn sy 0 = [] := by
  have e : rankF sy.length 0 = 0 := by unfold rankF; simp; omega
  unfold frm inn
  rw [e, Nat.sub_zero, List.take_length, List.drop_length]
  exact ⟨rfl, rfl⟩
theorem cls_zero (sy ay : List Int) (j : Nat) (h : j < ay.length) : cls sy ay 0 j = ([], [nth ay j]) := by
  unfold cls clz
  rw [(frm_zero sy).2]
  have e : (pr ([] : List Int)).toNat = 1 := rfl
  rw [e, Nat.mul_one]
  congr 1
  rw [List.drop_eq_getElem_cons h, nth_lt h]
  rfl
theorem fe_one (e : Int) : fe [e] = e := by
  unfold fe
  by_cases h : e = 0
  · rw [if_pos h, h]; rfl
  · rw [if_neg h]
theorem mo_one (op a : Int) (hl : lck (Nm.mE op 0) = false) : moE op [] [a] = Nm.mE op a := by
  unfold moE
  rw [if_neg (show ¬ mayA ([] : List Int) [a] ≠ 0 by intro h; exact h rfl), if_neg (by rw [hl]; decide)]
  exact fe_one _
theorem atom_lift (op : Int) (hl : lck (Nm.mE op 0) = false) (sy ay : List Int) (my : mayA sy ay = 0) (hn : npl sy 0 ≠ 0) :
    lF (fun j => moE op (cls sy ay 0 j).1 (cls sy ay 0 j).2) (frm sy 0) (fun j => (moS op (cls sy ay 0 j).1 (cls sy ay 0 j).2, moA op (cls sy ay 0 j).1 (cls sy ay 0 j).2)) (npl sy 0) = moE op sy ay ∧
    lS (fun j => moE op (cls sy ay 0 j).1 (cls sy ay 0 j).2) (frm sy 0) (fun j => (moS op (cls sy ay 0 j).1 (cls sy ay 0 j).2, moA op (cls sy ay 0 j).1 (cls sy ay 0 j).2)) (npl sy 0) = moS op sy ay ∧
    lA (fun j => moE op (cls sy ay 0 j).1 (cls sy ay 0 j).2) (frm sy 0) (fun j => (moS op (cls sy ay 0 j).1 (cls sy ay 0 j).2, moA op (cls sy ay 0 j).1 (cls sy ay 0 j).2)) (npl sy 0) = moA op sy ay := by
  have mz := mayA_zero my
  have bd := prF_bd mz.1
  have en : npl sy 0 = ay.length := by
    unfold npl
    rw [(frm_zero sy).1]
    omega
  have eW : moE op sy ay = fe (ay.map (Nm.mE op)) := by
    unfold moE
    rw [if_neg (by simp [my]), if_neg (by rw [hl]; decide)]
  generalize hg : (fun j => moE op (cls sy ay 0 j).1 (cls sy ay 0 j).2) = gE
  generalize hy : (fun j => (moS op (cls sy ay 0 j).1 (cls sy ay 0 j).2, moA op (cls sy ay 0 j).1 (cls sy ay 0 j).2)) = ys
  have g1 : ∀ j, j < ay.length → gE j = Nm.mE op (nth ay j) := fun j hj => by
    rw [← hg]
    show moE op (cls sy ay 0 j).1 (cls sy ay 0 j).2 = _
    rw [cls_zero sy ay j hj]
    exact mo_one op _ hl
  have y1 : ∀ j, j < ay.length → gE j = 0 → ys j = ([], [Nm.mN op (nth ay j)]) := fun j hj h0 => by
    have e0 : moE op [] [nth ay j] = 0 := by rw [mo_one op _ hl, ← g1 j hj]; exact h0
    rw [← hy]
    show (moS op (cls sy ay 0 j).1 (cls sy ay 0 j).2, moA op (cls sy ay 0 j).1 (cls sy ay 0 j).2) = _
    rw [cls_zero sy ay j hj]
    show (moS op [] [nth ay j], moA op [] [nth ay j]) = _
    unfold moS moA
    rw [e0, onOk_ok rfl, onOk_ok rfl]
    rfl
  rw [(frm_zero sy).1, en]
  have cm : ∀ q, (∀ j, j < q → j < ay.length ∧ gE j = 0) → cmn ys q = [] := fun q h => by
    by_cases c : q = 0
    · rw [c]; rfl
    · exact cmn_same q (by omega) (fun j hj => by rw [y1 j (h j hj).1 (h j hj).2])
  have ja : ∀ q, (∀ j, j < q + 1 → j < ay.length ∧ gE j = 0) → jA sy ys q = 0 := fun q h => by
    unfold jA
    rw [y1 q (h q (by omega)).1 (h q (by omega)).2]
    unfold addE
    have e1 : nxt ys q [] = [] := by
      unfold nxt
      by_cases c : q = 0
      · rw [if_pos c]
      · rw [if_neg c, cm q (fun j hj => h j (by omega)), com_self]
    rw [if_neg (by have := (h q (by omega)).1; omega), if_neg (by intro e; exact e rfl), e1, List.append_nil, if_neg (by rintro (e | e); exact e rfl; exact e mz.1)]
  have lz : ∀ q, (∀ j, j < q → j < ay.length ∧ gE j = 0) → lF gE sy ys q = 0 := fun q => by
    induction q with
    | zero => intro _; rfl
    | succ q ih => exact fun h => lF_on (ih (fun j hj => h j (by omega))) (h q (by omega)).2 (ja q h)
  by_cases hall : ∀ j, j < ay.length → Nm.mE op (nth ay j) = 0
  · have h0 : ∀ j, j < ay.length → j < ay.length ∧ gE j = 0 := fun j hj => ⟨hj, by rw [g1 j hj]; exact hall j hj⟩
    have e0 := lz ay.length h0
    have eM : moE op sy ay = 0 := by
      rw [eW]
      exact fe_none _ fun j hj => by rw [List.length_map] at hj; rw [nth_maps hj]; exact hall j hj
    obtain ⟨u1, u2⟩ := lS_ok e0
    have ec := cm ay.length h0
    refine ⟨by rw [e0, eM], ?_, ?_⟩
    · rw [u1, ec, List.append_nil]; unfold moS; rw [eM, onOk_ok rfl]
    · rw [u2, ec, List.append_nil]
      unfold moA
      rw [eM, onOk_ok rfl]
      have pz : (pr ([] : List Int)).toNat = 1 := rfl
      have ps : (pr sy).toNat = ay.length := by omega
      rw [pz, ps]
      have cp := jnZ_copy (I := []) (at' := ay.map (Nm.mN op)) (cur := List.replicate ay.length 0) (z := 1) (xs := ys) rfl rfl ay.length (by simp) (by simp) (fun j hj => by
        rw [y1 j hj (h0 j hj).2]
        congr 1
        rw [Nat.mul_one, List.drop_eq_getElem_cons (by simpa using hj)]
        simp [nth_lt hj])
      refine ext_nth (by rw [jnZ_len]; simp) fun i hi => ?_
      rw [jnZ_len, List.length_replicate] at hi
      rw [cp i, if_pos (by omega)]
  · obtain ⟨m, hm1, hm2, hm3⟩ : ∃ m, m < ay.length ∧ Nm.mE op (nth ay m) ≠ 0 ∧ ∀ j, j < m → Nm.mE op (nth ay j) = 0 := by
      have ⟨m, h1, h2⟩ : ∃ m, m < ay.length ∧ Nm.mE op (nth ay m) ≠ 0 := Classical.byContradiction fun q => hall fun j hj => Classical.byContradiction fun c => q ⟨j, hj, c⟩
      clear hall
      induction m using Nat.strongRecOn with
      | _ m ih =>
        by_cases c : ∃ j, j < m ∧ Nm.mE op (nth ay j) ≠ 0
        · obtain ⟨j, h3, h4⟩ := c
          exact ih j h3 (by omega) h4
        · exact ⟨m, h1, h2, fun j hj => Classical.byContradiction fun q => c ⟨j, hj, q⟩⟩
    have e0 := lz m (fun j hj => ⟨by omega, by rw [g1 j (by omega)]; exact hm3 j hj⟩)
    have gm : gE m = Nm.mE op (nth ay m) := g1 m hm1
    have eL := lF_do e0 hm1 (show gE m ≠ 0 by rw [gm]; exact hm2)
    have eM : moE op sy ay = Nm.mE op (nth ay m) := by
      rw [eW, fe_at _ m (by simpa using hm1) (fun j hj => by rw [nth_maps (by omega)]; exact hm3 j hj) (by rw [nth_maps hm1]; exact hm2), nth_maps hm1]
    have ne : moE op sy ay ≠ 0 := by rw [eM]; exact hm2
    obtain ⟨u1, u2⟩ := lS_no (gE := gE) (fs := sy) (xs := ys) (n := ay.length) (by rw [eL, gm]; exact hm2)
    refine ⟨by rw [eL, gm, eM], ?_, ?_⟩
    · rw [u1]; unfold moS; rw [onOk_no ne]
    · rw [u2]; unfold moA; rw [onOk_no ne]
theorem cells_atom (so ao : Option Addr) (sn sc an ac : Nat) (sy ay : List Int) (w : World) (hsy : Rd w so sn sy) (ssy : Sl so sn sc) (hay : Rd w ao an ay) (say : Sl ao an ac) (k : Nat) (hk : k < 43) (hm : pMb k = true) (hM : pM k = .func (.func 66) #[] #[]) (hr : pR k = 0) (hl : lck (Nm.mE ((k : Int) + 1) 0) = false) (my : mayA sy ay = 0) (hf : frm sy (pR k) ≠ []) (hn : npl sy (pR k) ≠ 0) :
    Calls Tryz.prog 4 #[.int .i64 ((k : Int) + 1), .agg #[.slice so sn sc, .slice ao an ac]] w fun e w' => e = .returned (.bool true) ∧ Below w.heap.size w w' := by
  have K := bk_of (pR k) my
  refine cells_main so ao sn sc an ac sy ay w hsy ssy hay say k hk hm (by omega) (by omega) my hf hn (fun j => moE ((k : Int) + 1) (cls sy ay (pR k) j).1 (cls sy ay (pR k) j).2) (fun j => (moS ((k : Int) + 1) (cls sy ay (pR k) j).1 (cls sy ay (pR k) j).2, moA ((k : Int) + 1) (cls sy ay (pR k) j).1 (cls sy ay (pR k) j).2)) ?_ ?_
  · intro V j so' ao' sn' sc' an' ac' b hj a1 a2 a3 a4
    exact monadP_atom so' ao' sn' sc' an' ac' _ _ V a1 a2 a3 a4 (K.cell hj) k hk hM hm hr
  · intro V b
    have := monadP_atom so ao sn sc an ac sy ay V (hsy.below b (Nat.le_refl _)) ssy (hay.below b (Nat.le_refl _)) say my k hk hM hm hr
    rw [hr] at hn ⊢
    obtain ⟨d1, d2, d3⟩ := atom_lift ((k : Int) + 1) hl sy ay my hn
    rw [d1, d2, d3]
    exact this
end Go.Proofs.YtelcagfaflpolaaGreat


namespace Go.Proofs.YtelcagfaflpolaaGreat

open Go.RowKit

set_option linter.unusedVariables false

/-- What digit's Monad does with arrays of rank 1 at most. -/
def DgQ (op : Int) (fE : List Int → List Int → Int) (fS fA : List Int → List Int → List Int) : Prop :=
  ∀ so ao sn sc an ac sh at' V, Rd V so sn sh → Sl so sn sc → Rd V ao an at' → Sl ao an ac → mayA sh at' = 0 → sn ≤ 1 → Calls Tryz.prog 73 #[.int .i64 op, .agg #[.slice so sn sc, .slice ao an ac]] V fun e w' => AnsP V (fE sh at') (fS sh at') (fA sh at') e w'
theorem dg_39 : DgQ 39 (fun sy ay => fbE (fbR (takL [] [2] ay.length) (takL sy ay 1) (fbN [] sy [2] ay))) (fun _ _ => []) (fun sy ay => fbA (fbR (takL [] [2] ay.length) (takL sy ay 1) (fbN [] sy [2] ay))) := by
  intro so ao sn sc an ac sh at' V h ss g sa my hr
  refine (monadZ_39 so ao sn sc an ac sh at' _ _ V h g my hr fun U b => ?_).mono fun e w' q => ansP_of_Z q
  exact fromBinary_any so ao sn sc an ac sh at' U (h.below b (Nat.le_refl _)) (g.below b (Nat.le_refl _)) sa my
theorem dg_43 : DgQ 43 (fun sy ay => cpE sy ay [(ay.length : Int)]) (fun sy ay => cpS sy ay [(ay.length : Int)]) (fun sy ay => cpA sy ay [(ay.length : Int)] (rgL ay.length)) := by
  intro so ao sn sc an ac sh at' V h ss g sa my hr
  obtain rfl := g.len
  refine (monadZ_43 so ao sn sc _ ac sh at' _ _ V h g my hr fun U b => ?_).mono fun e w' q => ansP_of_Z q
  exact where_any so ao sn sc _ ac sh at' U (h.below b (Nat.le_refl _)) (g.below b (Nat.le_refl _)) sa my
/-- Counting: refused where a number has no size, or where they are no shape. -/
def ctB (zs : List Int) : Bool := zs.all fun z => z != -9223372036854775808
def ctE (zs : List Int) : Int := if ctB zs = true ∧ mayF (absL zs) = 0 then 0 else 17
theorem ctB_at {zs : List Int} (h : ctB zs = true) {k : Nat} (hk : k < zs.length) : nth zs k ≠ -9223372036854775808 := by
  have := List.all_eq_true.1 h (nth zs k) (nth_mem hk)
  simpa using this
theorem ctB_no {zs : List Int} (h : ctB zs ≠ true) : ∃ k, k < zs.length ∧ nth zs k = -9223372036854775808 := by
  refine Classical.byContradiction fun q => h (List.all_eq_true.2 fun z hz => ?_)
  obtain ⟨k, hk, rfl⟩ := List.mem_iff_getElem.1 hz
  have : nth zs k ≠ -9223372036854775808 := fun e => q ⟨k, hk, e⟩
  rw [nth_lt hk] at this
  simpa using this
theorem dg_34 : DgQ 34 (fun _ ay => ctE ay) (fun _ ay => onOk (ctE ay) (absL ay)) (fun _ ay => onOk (ctE ay) (cnt ay ay.length)) := by
  intro so ao sn sc an ac sh at' V h ss g sa my hr
  obtain rfl := g.len
  have l4 := at_len my
  show Calls _ _ _ _ fun e w' => AnsP V (ctE at') (onOk (ctE at') (absL at')) (onOk (ctE at') (cnt at' at'.length)) e w'
  by_cases c1 : ctB at' = true
  · by_cases c2 : mayF (absL at') = 0
    · have e : ctE at' = 0 := if_pos ⟨c1, c2⟩
      rw [e, onOk_ok rfl, onOk_ok rfl]
      refine (monadZ_34 so ao sn sc _ ac sh at' _ _ V h g my hr fun U b => ?_).mono fun e w' q => ansP_of_Z q
      exact count_ok so ao sn sc _ ac at' U (g.below b (Nat.le_refl _)) l4 (fun k hk => ctB_at c1 hk) c2
    · have e : ctE at' = 17 := if_neg (fun q => c2 q.2)
      rw [e, onOk_no (by decide), onOk_no (by decide)]
      refine (monadZ_34 so ao sn sc _ ac sh at' _ _ V h g my hr fun U b => ?_).mono fun e w' q => ansP_of_Z q
      exact count_bad so ao sn sc _ ac at' U (g.below b (Nat.le_refl _)) l4 (fun k hk => ctB_at c1 hk) c2
  · have e : ctE at' = 17 := if_neg (fun q => c1 q.1)
    rw [e, onOk_no (by decide), onOk_no (by decide)]
    refine (monadZ_34 so ao sn sc _ ac sh at' _ _ V h g my hr fun U b => ?_).mono fun e w' q => ansP_of_Z q
    exact count_min so ao sn sc _ ac at' U (g.below b (Nat.le_refl _)) l4 (ctB_no c1)

theorem rank_one (sy ay : List Int) (hf : frm sy 1 ≠ []) (j : Nat) : 1 < sy.length ∧ (cls sy ay 1 j).1.length ≤ 1 := by
  have e : rankF sy.length 1 = min 1 sy.length := by unfold rankF; simp; omega
  have hl : (frm sy 1).length ≠ 0 := fun q => hf (List.length_eq_zero_iff.1 q)
  have e1 : (frm sy 1).length = sy.length - min 1 sy.length := by unfold frm; rw [e]; simp
  refine ⟨by omega, ?_⟩
  show (inn sy 1).length ≤ 1
  unfold inn
  rw [e]
  simp
  omega
theorem cells_digit (so ao : Option Addr) (sn sc an ac : Nat) (sy ay : List Int) (w : World) (hsy : Rd w so sn sy) (ssy : Sl so sn sc) (hay : Rd w ao an ay) (say : Sl ao an ac) (k : Nat) (hk : k < 43) (hm : pMb k = true) (hM : pM k = .func (.func 73) #[] #[]) (hr : pR k = 1) (fE : List Int → List Int → Int) (fS fA : List Int → List Int → List Int) (hd : DgQ ((k : Int) + 1) fE fS fA) (my : mayA sy ay = 0) (hf : frm sy (pR k) ≠ []) (hn : npl sy (pR k) ≠ 0) :
    Calls Tryz.prog 4 #[.int .i64 ((k : Int) + 1), .agg #[.slice so sn sc, .slice ao an ac]] w fun e w' => e = .returned (.bool true) ∧ Below w.heap.size w w' := by
  have K := bk_of (pR k) my
  have r0 : (pR k == 0) = false := by rw [hr]; decide
  have r1 := fun j => rank_one sy ay (by rw [hr] at hf; exact hf) j
  rw [← hr] at r1
  refine cells_main so ao sn sc an ac sy ay w hsy ssy hay say k hk hm (by omega) (by omega) my hf hn (fun j => fE (cls sy ay (pR k) j).1 (cls sy ay (pR k) j).2) (fun j => (fS (cls sy ay (pR k) j).1 (cls sy ay (pR k) j).2, fA (cls sy ay (pR k) j).1 (cls sy ay (pR k) j).2)) ?_ ?_
  · intro V j so' ao' sn' sc' an' ac' b hj a1 a2 a3 a4
    have hc := K.cell hj
    have hs : sn' ≤ 1 := by rw [← a1.len]; exact (r1 j).2
    refine monadP_go so' ao' sn' sc' an' ac' _ _ V a1 a3 hc k hk hm _ _ _ fun U bU => ?_
    refine lift1_whole _ _ so' ao' sn' sc' an' ac' _ _ _ U r0 (by rw [hr]; omega) fun T bT => ?_
    rw [hM]
    have bw := btw bU bT bU.size
    refine one_digit _ _ _ _ _ _ _ _ _ so' ao' sn' sc' an' ac' _ _ _ T fun Y bY => ?_
    have by' := btw bw bY bw.size
    exact hd so' ao' sn' sc' an' ac' _ _ Y (a1.below by' (Nat.le_refl _)) a2 (a3.below by' (Nat.le_refl _)) a4 hc hs
  · intro V b
    refine monadP_go so ao sn sc an ac sy ay V (hsy.below b (Nat.le_refl _)) (hay.below b (Nat.le_refl _)) my k hk hm _ _ _ fun U bU => ?_
    have bw := btw b bU b.size
    have hl := hsy.len
    have h2 := (r1 0).1
    refine lift1_join _ (pR k) so ao sn sc an ac sy ay (fun j => fE (cls sy ay (pR k) j).1 (cls sy ay (pR k) j).2) (fun j => (fS (cls sy ay (pR k) j).1 (cls sy ay (pR k) j).2, fA (cls sy ay (pR k) j).1 (cls sy ay (pR k) j).2)) (npl sy (pR k)) U (by omega) (by omega) r0 (by rw [hr]; omega) (hsy.below bw (Nat.le_refl _)) ssy (hay.below bw (Nat.le_refl _)) say my rfl (by omega) ?_
    intro T j so' ao' sn' sc' an' ac' bT hj a1 a2 a3 a4
    have hc := K.cell hj
    have hs : sn' ≤ 1 := by rw [← a1.len]; exact (r1 j).2
    rw [hM]
    refine one_digit _ _ _ _ _ _ _ _ _ so' ao' sn' sc' an' ac' _ _ _ T fun Y bY => ?_
    exact hd so' ao' sn' sc' an' ac' _ _ Y (a1.below bY (Nat.le_refl _)) a2 (a3.below bY (Nat.le_refl _)) a4 hc hs
theorem mon_kinds (k : Nat) (hk : k < 43) (h : pMb k = true) : (pM k = .func (.func 66) #[] #[] ∧ pR k = 0 ∧ lck (Nm.mE ((k : Int) + 1) 0) = false) ∨ k = 33 ∨ k = 38 ∨ k = 42 ∨ pR k = 64 := by
  match k, hk with
  | 0, _ => exact .inl ⟨rfl, rfl, by decide⟩
  | 1, _ => exact .inl ⟨rfl, rfl, by decide⟩
  | 2, _ => exact .inl ⟨rfl, rfl, by decide⟩
  | 3, _ => exact absurd h (by decide)
  | 4, _ => exact .inl ⟨rfl, rfl, by decide⟩
  | 5, _ => exact .inl ⟨rfl, rfl, by decide⟩
  | 6, _ => exact .inl ⟨rfl, rfl, by decide⟩
  | 7, _ => exact absurd h (by decide)
  | 8, _ => exact absurd h (by decide)
  | 9, _ => exact .inr (.inr (.inr (.inr rfl)))
  | 10, _ => exact .inr (.inr (.inr (.inr rfl)))
  | 11, _ => exact .inl ⟨rfl, rfl, by decide⟩
  | 12, _ => exact .inl ⟨rfl, rfl, by decide⟩
  | 13, _ => exact absurd h (by decide)
  | 14, _ => exact absurd h (by decide)
  | 15, _ => exact .inl ⟨rfl, rfl, by decide⟩
  | 16, _ => exact .inl ⟨rfl, rfl, by decide⟩
  | 17, _ => exact .inl ⟨rfl, rfl, by decide⟩
  | 18, _ => exact .inl ⟨rfl, rfl, by decide⟩
  | 19, _ => exact absurd h (by decide)
  | 20, _ => exact .inl ⟨rfl, rfl, by decide⟩
  | 21, _ => exact .inr (.inr (.inr (.inr rfl)))
  | 22, _ => exact .inr (.inr (.inr (.inr rfl)))
  | 23, _ => exact .inr (.inr (.inr (.inr rfl)))
  | 24, _ => exact .inr (.inr (.inr (.inr rfl)))
  | 25, _ => exact .inr (.inr (.inr (.inr rfl)))
  | 26, _ => exact absurd h (by decide)
  | 27, _ => exact .inr (.inr (.inr (.inr rfl)))
  | 28, _ => exact .inr (.inr (.inr (.inr rfl)))
  | 29, _ => exact .inr (.inr (.inr (.inr rfl)))
  | 30, _ => exact .inr (.inr (.inr (.inr rfl)))
  | 31, _ => exact .inr (.inr (.inr (.inr rfl)))
  | 32, _ => exact .inr (.inr (.inr (.inr rfl)))
  | 33, _ => exact .inr (by omega)
  | 34, _ => exact absurd h (by decide)
  | 35, _ => exact .inr (.inr (.inr (.inr rfl)))
  | 36, _ => exact .inr (.inr (.inr (.inr rfl)))
  | 37, _ => exact .inr (.inr (.inr (.inr rfl)))
  | 38, _ => exact .inr (by omega)
  | 39, _ => exact .inr (.inr (.inr (.inr rfl)))
  | 40, _ => exact .inr (.inr (.inr (.inr rfl)))
  | 41, _ => exact .inr (.inr (.inr (.inr rfl)))
  | 42, _ => exact .inr (by omega)
  | _ + 43, h => exact absurd h (by omega)
theorem frm_inf (sy ay : List Int) (my : mayA sy ay = 0) : frm sy 64 = [] := by
  have l8 := (mayF_zero (mayA_zero my).1).2.1
  have e : rankF sy.length 64 = sy.length := by unfold rankF; simp; omega
  unfold frm
  rw [e, Nat.sub_self]
  rfl
theorem cells_walk (so ao : Option Addr) (sn sc an ac : Nat) (sy ay : List Int) (w : World) (hsy : Rd w so sn sy) (ssy : Sl so sn sc) (hay : Rd w ao an ay) (say : Sl ao an ac) (op : Int) :
    Calls Tryz.prog 4 #[.int .i64 op, .agg #[.slice so sn sc, .slice ao an ac]] w fun e w' => e = .returned (.bool true) ∧ Below w.heap.size w w' := by
  by_cases ho : op < 1 ∨ 43 < op
  · exact cells_no so ao sn sc an ac sy ay w hsy ssy hay say op (fun W => info_no op W ho)
  · obtain ⟨k, rfl⟩ : ∃ k : Nat, op = (k : Int) + 1 := ⟨(op - 1).toNat, by omega⟩
    have hk : k < 43 := by omega
    have hi := info_yes k hk
    cases hm : pMb k
    · rw [hm] at hi
      exact cells_free so ao sn sc an ac sy ay w hsy ssy hay say 0 k _ _ _ _ _ _ _ _ hi
    · by_cases my : mayA sy ay = 0
      · have rb : -9223372036854775808 ≤ pR k ∧ pR k ≤ 9223372036854775807 := by
          have q : ∀ k : Fin 43, -9223372036854775808 ≤ pR k.val ∧ pR k.val ≤ 9223372036854775807 := by decide
          exact q ⟨k, hk⟩
        have hone := fun V (x : Rd V so sn sy) (y : Rd V ao an ay) => one_ok so ao sn sc an ac sy ay (pR k) V x ssy y say my rb.1 rb.2
        have K := bk_of (pR k) my
        have n5 : npl sy (pR k) ≤ 4096 := by have := (prF_bd K.mf).2; have := K.n; omega
        by_cases hf : frm sy (pR k) = []
        · rw [hm] at hi
          exact cells_whole so ao sn sc an ac sy ay w hsy ssy hay say 0 k _ _ _ _ _ _ _ _ my _ _ _ _ _ n5 hone hf hi
        · by_cases hn : npl sy (pR k) = 0
          · rw [hm] at hi
            exact cells_none so ao sn sc an ac sy ay w hsy ssy hay say 0 k _ _ _ _ _ _ _ _ my _ _ _ _ _ n5 hone hf hn hi
          · rcases mon_kinds k hk hm with ⟨h1, h2, h3⟩ | rfl | rfl | rfl | h1
            · exact cells_atom so ao sn sc an ac sy ay w hsy ssy hay say k hk hm h1 h2 h3 my hf hn
            · exact cells_digit so ao sn sc an ac sy ay w hsy ssy hay say 33 hk rfl rfl rfl _ _ _ dg_34 my hf hn
            · exact cells_digit so ao sn sc an ac sy ay w hsy ssy hay say 38 hk rfl rfl rfl _ _ _ dg_39 my hf hn
            · exact cells_digit so ao sn sc an ac sy ay w hsy ssy hay say 42 hk rfl rfl rfl _ _ _ dg_43 my hf hn
            · rw [h1] at hf
              exact absurd (frm_inf sy ay my) hf
      · rw [hm] at hi
        exact cells_bad so ao sn sc an ac sy ay w hsy ssy hay say 0 k _ _ _ _ _ _ _ _ my hi
end Go.Proofs.YtelcagfaflpolaaGreat
