
/- Package term: the names, gathered. -/

import Derived.Test.YtiahilelcppfgaaGreatTO2

import Derived.Test.YtiahilelcppfgaaGreatOA

namespace Go.Proofs.YtiahilelcppfgaaGreat

open Go.RowKit

set_option linter.unusedVariables false

/-- Lists one behind the other. -/
def pcat {α : Type} (f : Nat → List α) : Nat → List α
  | 0 => []
  | k + 1 => pcat f k ++ f k
/-- Does a node of that kind name something? -/
def isNm (k : Int) : Bool := decide (k = 2) || (decide (k = 21) || decide (k = 11))
/-- What a term names, node by node. -/
def gat : (d : Nat) → Tr d → List ByteArray
  | 0, _ => []
  | d + 1, x => (if isNm x.nd.k then [x.nd.t] else []) ++ pcat (fun i => (x.ks[i]?).elim [] (gat d)) x.ks.length
theorem pcat_len {α : Type} (f : Nat → List α) (g : Nat → Nat) : ∀ m, (∀ i, i < m → (f i).length ≤ g i) → (pcat f m).length ≤ psum g m
  | 0, _ => Nat.le_refl _
  | m + 1, h => by
    have h1 := pcat_len f g m (fun i hi => h i (by omega))
    have h2 := h m (by omega)
    simp only [pcat, psum, List.length_append]; omega
theorem gat_len : ∀ (d : Nat) (x : Tr d), (gat d x).length ≤ nds d x
  | 0, x => nomatch x
  | d + 1, x => by
    have h := pcat_len (fun i => (x.ks[i]?).elim [] (gat d)) (fun i => (x.ks[i]?).elim 0 (nds d)) x.ks.length (fun i hi => by
      simp only [List.getElem?_eq_getElem hi, Option.elim]
      exact gat_len d _)
    show ((if isNm x.nd.k then [x.nd.t] else []) ++ pcat (fun i => (x.ks[i]?).elim [] (gat d)) x.ks.length).length ≤ 1 + psum (fun i => (x.ks[i]?).elim 0 (nds d)) x.ks.length
    rw [List.length_append]
    have : (if isNm x.nd.k then [x.nd.t] else []).length ≤ 1 := by split <;> simp
    omega
theorem infoS : (Tryz.prog.info? 9).map (fun i => (i.zero, i.size, i.bytes)) = some (some (Value.string ⟨#[]⟩), 1, 16) := by kernel_rfl
/-- A text more, behind a list of texts. -/
theorem run_joinS {w : World} (tt : TypeId) (B vb : Nat) (go : Option Addr) (n gc : Nat) (cs : List Value) (t : ByteArray)
    (h : w.ownsRow B 9 1 (.slice go n gc) n cs) (hv : w.heap[vb]? = some (.cells #[.string t] 9 (0, 0))) (hn : n ≤ 5000) (hB : B ≤ w.heap.size) :
    ∃ co c w', (Builtin.append_ #[47, 47] tt #[.slice go n gc, .slice (some ⟨vb, 0, none⟩) 1 1]).run Tryz.prog w = .ok (.slice co (n + 1) c) w' ∧ w'.ownsRow B 9 1 (.slice co (n + 1) c) (n + 1) (cs ++ [.string t]) ∧ w.grownBy w' (Value.slice go n gc).ownBlock := by
  obtain ⟨i0, hi, hz0, hz1, hz2⟩ := info_parts infoS
  have x0 : w.cell? ⟨vb, 0, none⟩ = some (.string t) := cell_of_row w vb 0 _ _ (0, 0) hv
  obtain ⟨v', w', hrun, hown, hgrow, _, hat⟩ := run_append_own_at (P := Tryz.prog) w B 47 tt 9 i0 _ 1 16 Tryz.underlying47 hi hz0 hz1 hz2 rfl (by decide) _ n _ h ⟨vb, 0, none⟩ 1 1 [.string t] rfl
    (fun j q hq => by
      rw [add_at, Nat.zero_add]
      match j with
      | 0 => cases hq; exact x0
      | j + 1 => simp at hq) (by simp [Value.oneCell']) (by unfold maxLen; omega) (by omega) hB
  rcases hown.2 with ⟨e, h0⟩ | ⟨g, c, cur, e, _⟩
  · omega
  · subst e
    exact ⟨_, _, w', hrun, hown, hgrow⟩
theorem own_kb' {W V : World} {B s n : Nat} {e : TypeId} {v : Value} {xs : List Value} (h : W.ownsRow B e s v n xs) (b : Below W.heap.size W V) : V.ownsRow B e s v n xs := by
  refine ⟨h.1, ?_⟩
  rcases h.2 with ⟨e1, h0⟩ | ⟨g, cap, cur, e1, hB, hg, q⟩
  · exact .inl ⟨e1, h0⟩
  · exact .inr ⟨g, cap, cur, e1, hB, (b.block g (Array.getElem?_eq_some_iff.1 hg).1).trans hg, q⟩
theorem own_atb {V : World} {B m c s : Nat} {e : TypeId} {o : Option Addr} {vals : List Value} (h : V.ownsRow B e s (.slice o m c) m vals) : ∀ g, (Value.slice o m c).ownBlock = some g → B ≤ g ∧ g < V.heap.size := by
  intro g e
  rcases h.2 with ⟨e1, h0⟩ | ⟨g', cap, cur, e1, hB, hg, _⟩
  · injection e1 with e1; subst e1; cases e
  · injection e1 with e1
    subst e1
    have : g' = g := by injection e
    subst this
    exact ⟨hB, (Array.getElem?_eq_some_iff.1 hg).1⟩
def cloG (pn pg : Nat) : Value := .func (.func 39) #[] #[.pointer (some ⟨pn, 0, none⟩), .pointer (some ⟨pg, 0, none⟩)]
/-- The boxes of what was gathered and of the closure. -/
structure Gn (w0 w : World) (pn pg : Nat) (o : Option Addr) (m c : Nat) (l : List ByteArray) : Prop where
  bel : Below w0.heap.size w0 w
  ln : w0.heap.size ≤ pn
  ng : pn < pg
  lt : pg < w.heap.size
  bn : w.heap[pn]? = some (.cells #[.slice o m c] 47 (0, 0))
  bg : w.cell? ⟨pg, 0, none⟩ = some (cloG pn pg)
  own : w.ownsRow (pg + 1) 9 1 (.slice o m c) m (l.map Value.string)
theorem Gn.below {w0 w V : World} {pn pg m c : Nat} {o : Option Addr} {l : List ByteArray} (h : Gn w0 w pn pg o m c l) (b : Below w.heap.size w V) : Gn w0 V pn pg o m c l :=
  ⟨h.bel.trans (b.mono h.bel.size), h.ln, h.ng, Nat.lt_of_lt_of_le h.lt b.size, (b.block pn (Array.getElem?_eq_some_iff.1 h.bn).1).trans h.bn, (b.cell (p := ⟨pg, 0, none⟩) h.lt).trans h.bg, own_kb' h.own b⟩
/-- A text more in the box. -/
theorem Gn.push {w0 w w10 : World} {pn pg m c c' : Nat} {o o' : Option Addr} {l : List ByteArray} {t : ByteArray} (h : Gn w0 w pn pg o m c l) (hown : w10.ownsRow (pg + 1) 9 1 (.slice o' (m + 1) c') (m + 1) (l.map Value.string ++ [.string t])) (gr : w.grownBy w10 (Value.slice o m c).ownBlock) :
    Gn w0 (w10.setCell ⟨pn, 0, none⟩ (.slice o' (m + 1) c')) pn pg o' (m + 1) c' (l ++ [t]) := by
  have hge : ∀ q, (Value.slice o m c).ownBlock = some q → pg + 1 ≤ q := fun q e => (own_atb h.own q e).1
  have ng := h.ng
  have ln := h.ln
  have lt := h.lt
  have bs := h.bel.size
  have bn10 := (gr.block pn (by omega) (fun e => by have := hge _ e.symm; omega)).trans h.bn
  have hs := gr.size
  have G := set1 w10 pn 0 (.slice o' (m + 1) c')
  refine ⟨below_set1 0 _ (h.bel.grown gr h.bel.size (fun q e => by have := hge q e; omega)) ln (Nat.le_refl _), ln, ng, Nat.lt_of_lt_of_le lt (Nat.le_trans hs G.size), ?_, ?_, ?_⟩
  · have := heap_setCell_same w10 pn 0 _ 47 (.slice o' (m + 1) c') bn10
    exact this
  · have hg := h.bg
    simp only [World.cell?] at hg ⊢
    rw [heap_setCell_other _ _ _ _ (by simp; omega), gr.block pg lt (fun e => by have := hge _ e.symm; omega)]
    exact hg
  · rw [List.map_append]
    refine ⟨hown.1, ?_⟩
    rcases hown.2 with ⟨e1, h0⟩ | ⟨g, cap, cur, e1, hB, hg, q⟩
    · omega
    · exact .inr ⟨g, cap, cur, e1, hB, (G.block g (Array.getElem?_eq_some_iff.1 hg).1 (fun e => by injection e with e; omega)).trans hg, q⟩
/-- What a call of the closure leaves. -/
def GnP (w0 : World) (pn pg m : Nat) (l g : List ByteArray) (e : Ending) (w' : World) : Prop := e = .returned (.tuple #[]) ∧ ∃ o' c', Gn w0 w' pn pg o' (m + g.length) c' (l ++ g)
set_option linter.unusedSimpArgs false in
set_option maxRecDepth 100000 in
set_option maxHeartbeats 4000000 in
theorem gather_one (d : Nat) (x : Tr (d + 1)) (v3 v4 : Value) (ko o : Option Addr) (kc m c : Nat) (l : List ByteArray) (w0 w : World) (pn pg : Nat) (h : Gn w0 w pn pg o m c l) (hk : Kq (Tv w0 d) w0 ko x.ks) (hm : m + nds (d + 1) x ≤ 4097)
    (ih : ∀ (y : Tr d) (c0 c1 c2 c3 c4 c5 : Value) (W : World) (o : Option Addr) (m c : Nat) (l : List ByteArray), Tv w0 d y [c0, c1, c2, c3, c4, c5] → Gn w0 W pn pg o m c l → m + nds d y ≤ 4097 → Calls Tryz.prog 39 #[.agg #[c0, c1, c2, c3, c4, c5], .pointer (some ⟨pn, 0, none⟩), .pointer (some ⟨pg, 0, none⟩)] W fun e w' => GnP w0 pn pg m l (gat d y) e w') :
    Calls Tryz.prog 39 #[.agg #[.int .i64 x.nd.k, .string x.nd.t, .int .i64 x.nd.n, v3, v4, .slice ko x.ks.length kc], .pointer (some ⟨pn, 0, none⟩), .pointer (some ⟨pg, 0, none⟩)] w fun e w' => GnP w0 pn pg m l (gat (d + 1) x) e w' := by
  have eg : gat (d + 1) x = (if isNm x.nd.k then [x.nd.t] else []) ++ pcat (fun i => (x.ks[i]?).elim [] (gat d)) x.ks.length := rfl
  have en : nds (d + 1) x = 1 + psum (fun i => (x.ks[i]?).elim 0 (nds d)) x.ks.length := rfl
  rw [en] at hm
  rw [eg]
  clear eg en
  obtain ⟨F, hF⟩ : ∃ F : Nat → List ByteArray, F = fun i => (x.ks[i]?).elim [] (gat d) := ⟨_, rfl⟩
  obtain ⟨G, hG⟩ : ∃ G : Nat → Nat, G = fun i => (x.ks[i]?).elim 0 (nds d) := ⟨_, rfl⟩
  have hFk : Hid (∀ i y, x.ks[i]? = some y → F i = gat d y ∧ G i = nds d y) := fun i y e => by rw [hF, hG]; simp [e]
  have hFG : Hid (∀ j, j ≤ x.ks.length → (pcat F j).length ≤ psum G j) := fun j hj => pcat_len F G j (fun i hi => by
    obtain ⟨e1, e2⟩ := hFk.out i _ (List.getElem?_eq_getElem (show i < x.ks.length by omega))
    rw [e1, e2]; exact gat_len d _)
  rw [← hF]
  rw [← hG] at hm
  clear hF hG
  have hl : x.ks.length * 104 ≤ 140737488351232 := hk.room
  have HK : Hid (Kq (Tv w0 d) w0 ko x.ks) := hk
  have HM : Hid (m + (1 + psum G x.ks.length) ≤ 4097) := hm
  have HIH : Hid (_) := ih
  clear hk hm ih
  generalize x.nd.k = kk at *
  generalize x.nd.t = tt at *
  generalize x.nd.n = nn at *
  generalize hL : x.ks.length = L at *
  have kb := box_below w (.cells #[.int .i64 kk, .string tt, .int .i64 nn, v3, v4, .slice ko L kc] 31)
  have G1 := h.below kb
  obtain ⟨z0, z1, z2, z3, z4, z5⟩ := box6 (allocNew w (.cells #[.int .i64 kk, .string tt, .int .i64 nn, v3, v4, .slice ko L kc] 31))
  obtain ⟨M0, l0, hML⟩ : ∃ (M0 : Nat) (l0 : List ByteArray), M0 = m + (if isNm kk then [tt] else []).length ∧ l0 = l ++ (if isNm kk then [tt] else []) := ⟨_, _, rfl, rfl⟩
  have HB : Hid (M0 ≤ m + 1) := by
    rw [hML.1]
    have : (if isNm kk then [tt] else []).length ≤ 1 := by split <;> simp
    show _ ≤ _
    omega
  have loop : ∀ (a : Act) (W : World) (o1 : Option Addr) (c1 : Nat), True := fun _ _ _ _ => trivial
  clear loop
  cases hi : isNm kk
  · have e2 : (kk == 2) = false := by unfold isNm at hi; simp at hi; simp; omega
    have e21 : (kk == 21) = false := by unfold isNm at hi; simp at hi; simp; omega
    have e11 : (kk == 11) = false := by unfold isNm at hi; simp at hi; simp; omega
    rw [hi] at hML
    simp only [Bool.false_eq_true, if_false, List.length_nil, Nat.add_zero, List.append_nil] at hML
    obtain ⟨rfl, rfl⟩ := hML
    simp only [Bool.false_eq_true, if_false, List.nil_append]
    clear hi
    go_enter Tryz.func39, Tryz.ntmps39
    go_upto_region 7 with fail
    generalize w.alloc (.cells #[.int .i64 kk, .string tt, .int .i64 nn, v3, v4, .slice ko L kc] 31) = W1 at *
    clear z0 z1 z2 z3 z4 z5 kb h
    go_wp2
    go_loopw [20] (fun i V => ∃ (j : Nat) (o1 : Option Addr) (c1 : Nat), j ≤ L ∧ i = .int .i64 (j : Nat) ∧ Gn w0 V pn pg o1 (M0 + (pcat F j).length) c1 (l0 ++ pcat F j)) (fun i _ => L - (intOf i).toNat)
    case atStart => exact ⟨0, _, _, Nat.zero_le _, rfl, by simpa [pcat] using G1⟩
    case round =>
      obtain ⟨j, o1, c1, hj, rfl, C⟩ := hrel
      clear G1
      by_cases hlt : j < L
      · have t3 : decide ((j : Int) < (L : Int)) = true := by simp; omega
        have bj : (j : Int) < (L : Int) := by omega
        obtain ⟨y, hy⟩ : ∃ y, x.ks[j]? = some y := ⟨x.ks[j]'(by omega), by simp⟩
        obtain ⟨b, off, rfl, hb, hc⟩ := HK.out.cells (by omega)
        obtain ⟨c0, cc1, c2, c3, c4, c5, hv, q0, q1, q2, q3, q4, q5⟩ := hc j y hy
        obtain ⟨k1, t1, n1, so, sn, sc, ao, an, ac, uo, un, uc, ev⟩ := hv.form
        injection ev with ev0 ev
        injection ev with ev1 ev
        injection ev with ev2 ev
        injection ev with ev3 ev
        injection ev with ev4 ev
        injection ev with ev5 ev
        subst ev0 ev1 ev2 ev3 ev4 ev5
        replace q0 := (C.bel.cell (p := ⟨b, off + j * 6, none⟩) hb).trans q0
        replace q1 := (C.bel.cell (p := ⟨b, off + j * 6 + 1, none⟩) hb).trans q1
        replace q2 := (C.bel.cell (p := ⟨b, off + j * 6 + 2, none⟩) hb).trans q2
        replace q3 := (C.bel.cell (p := ⟨b, off + j * 6 + 3, none⟩) hb).trans q3
        replace q4 := (C.bel.cell (p := ⟨b, off + j * 6 + 4, none⟩) hb).trans q4
        replace q5 := (C.bel.cell (p := ⟨b, off + j * 6 + 5, none⟩) hb).trans q5
        have C4 := C.below (box_below wr (.cells #[.int .i64 k1, .string t1, .int .i64 n1, .slice so sn sc, .slice ao an ac, .slice uo un uc] 31))
        obtain ⟨z0, z1, z2, z3, z4, z5⟩ := box6 (allocNew wr (.cells #[.int .i64 k1, .string t1, .int .i64 n1, .slice so sn sc, .slice ao an ac, .slice uo un uc] 31))
        have zc := C4.bg
        unfold cloG at zc
        obtain ⟨eF, eG⟩ := hFk.out j y hy
        have hp1 := psum_le G (i := j + 1) (m := L) (by omega)
        simp only [psum] at hp1
        rw [eG] at hp1
        have hfg := hFG.out j (by omega)
        have hmm := HM.out
        have hbb := HB.out
        have hcal := HIH.out y (.int .i64 k1) (.string t1) (.int .i64 n1) (.slice so sn sc) (.slice ao an ac) (.slice uo un uc) _ _ _ _ _ hv C4 (by omega)
        unfold GnP at hcal
        have HE : Hid (F j = gat d y) := eF
        clear hp1 hfg hmm hbb eF eG hc hv
        go_wp2_with (first
          | (go_at_call 39; (with_reducible refine hcal.mono ?_); rintro e w5 ⟨rfl, o5, c5', G5⟩))
        go_roundw
        case rel =>
          refine ⟨j + 1, o5, c5', by omega, by go_num, ?_⟩
          have e1 : M0 + (pcat F (j + 1)).length = M0 + (pcat F j).length + (gat d y).length := by simp only [pcat, List.length_append]; rw [HE.out]; omega
          have e2 : l0 ++ pcat F (j + 1) = l0 ++ pcat F j ++ gat d y := by simp only [pcat]; rw [HE.out, List.append_assoc]
          rw [e1, e2]
          exact G5
        case measure => simp [intOf]; omega
      · obtain rfl : j = L := by omega
        have t3 : decide ((j : Int) < (j : Int)) = false := by simp
        go_wp2
        (try simp only [Exit.inBlock, Exit.then])
        refine bodyPost_end (v := .tuple #[]) (by simp [results, Tryz.results39]) rfl ?_
        exact ⟨rfl, o1, c1, C⟩

  · rw [hi] at hML
    simp only [if_true, List.length_singleton] at hML
    simp only [if_true]
    have RX := allocNew (w.alloc (.cells #[.int .i64 kk, .string tt, .int .i64 nn, v3, v4, .slice ko L kc] 31)) (.cells #[.string tt] 9)
    have kx := box_below (w.alloc (.cells #[.int .i64 kk, .string tt, .int .i64 nn, v3, v4, .slice ko L kc] 31)) (.cells #[.string tt] 9)
    have G2 := G1.below kx
    obtain ⟨co, cc, w10, hrun, hown, gr10⟩ := run_joinS 47 (pg + 1) (w.alloc (.cells #[.int .i64 kk, .string tt, .int .i64 nn, v3, v4, .slice ko L kc] 31)).heap.size o m c (l.map Value.string) tt G2.own RX (by have := HM.out; omega) (by have := G2.lt; omega)
    have G3 := G2.push hown gr10
    have bn0 : (w.alloc (.cells #[.int .i64 kk, .string tt, .int .i64 nn, v3, v4, .slice ko L kc] 31)).cell? ⟨pn, 0, none⟩ = some (.slice o m c) := cell_of_row _ pn 0 _ _ (0, 0) G1.bn
    have bn10 := (gr10.block pn (by have := G2.lt; have := G2.ng; omega) (fun e => by have := (own_atb G2.own _ e.symm).1; have := G2.ng; omega)).trans G2.bn
    have bc10 : w10.cell? ⟨pn, 0, none⟩ = some (.slice o m c) := cell_of_row _ pn 0 _ _ (0, 0) bn10
    have bf10 := frozen_of_row w10 pn 0 _ _ bn10
    have rt10 : (w10.setCell ⟨pn, 0, none⟩ (.slice co (m + 1) cc)).heap[w.heap.size]? = _ := (heap_setCell_other _ _ _ _ (by have := h.ng; have := h.lt; simp; omega)).trans ((gr10.block w.heap.size (by simp; omega) (fun e => by have := (own_atb h.own _ e.symm).2; omega)).trans ((kx.block w.heap.size (by simp)).trans (allocNew w (.cells #[.int .i64 kk, .string tt, .int .i64 nn, v3, v4, .slice ko L kc] 31))))
    obtain ⟨y0, y1, y2, y3, y4, y5⟩ := box6 rt10
    rw [World.size_alloc] at hrun
    obtain ⟨e1, e2⟩ := hML
    replace G3 : Gn w0 (w10.setCell ⟨pn, 0, none⟩ (.slice co (m + 1) cc)) pn pg co M0 cc l0 := by rw [e1, e2]; exact G3
    have e1' : m + ([tt] ++ pcat F L).length = M0 + (pcat F L).length := by rw [List.length_append, List.length_singleton]; omega
    have e2' : l ++ ([tt] ++ pcat F L) = l0 ++ pcat F L := by rw [e2, List.append_assoc]
    have goalE : ∀ e w', GnP w0 pn pg M0 l0 (pcat F L) e w' → GnP w0 pn pg m l ([tt] ++ pcat F L) e w' := fun e w' q => by
      unfold GnP at q ⊢
      rw [e1', e2']
      exact q
    refine Calls.mono (R := fun e w' => GnP w0 pn pg M0 l0 (pcat F L) e w') ?_ goalE
    clear goalE e1' e2' G1 G2 kb h
    have hd : kk = 2 ∨ kk = 21 ∨ kk = 11 := by unfold isNm at hi; simp at hi; exact hi
    clear hi
    rcases hd with rfl | rfl | rfl
    · skip
      go_enter Tryz.func39, Tryz.ntmps39
      go_upto_region 7 with (at_builtin; refine wpList_append_run rfl _ _ _ rfl _ (by exact hrun) ?_)
      generalize w10.setCell ⟨pn, 0, none⟩ (.slice co (m + 1) cc) = W1 at *
      clear z0 z1 z2 z3 z4 z5 y0 y1 y2 y3 y4 y5 rt10 hrun hown gr10 bn0 bn10 bc10 bf10 RX kx
      go_wp2
      go_loopw [20] (fun i V => ∃ (j : Nat) (o1 : Option Addr) (c1 : Nat), j ≤ L ∧ i = .int .i64 (j : Nat) ∧ Gn w0 V pn pg o1 (M0 + (pcat F j).length) c1 (l0 ++ pcat F j)) (fun i _ => L - (intOf i).toNat)
      case atStart => exact ⟨0, _, _, Nat.zero_le _, rfl, by simpa [pcat] using G3⟩
      case round =>
        obtain ⟨j, o1, c1, hj, rfl, C⟩ := hrel
        clear G3
        by_cases hlt : j < L
        · have t3 : decide ((j : Int) < (L : Int)) = true := by simp; omega
          have bj : (j : Int) < (L : Int) := by omega
          obtain ⟨y, hy⟩ : ∃ y, x.ks[j]? = some y := ⟨x.ks[j]'(by omega), by simp⟩
          obtain ⟨b, off, rfl, hb, hc⟩ := HK.out.cells (by omega)
          obtain ⟨c0, cc1, c2, c3, c4, c5, hv, q0, q1, q2, q3, q4, q5⟩ := hc j y hy
          obtain ⟨k1, t1, n1, so, sn, sc, ao, an, ac, uo, un, uc, ev⟩ := hv.form
          injection ev with ev0 ev
          injection ev with ev1 ev
          injection ev with ev2 ev
          injection ev with ev3 ev
          injection ev with ev4 ev
          injection ev with ev5 ev
          subst ev0 ev1 ev2 ev3 ev4 ev5
          replace q0 := (C.bel.cell (p := ⟨b, off + j * 6, none⟩) hb).trans q0
          replace q1 := (C.bel.cell (p := ⟨b, off + j * 6 + 1, none⟩) hb).trans q1
          replace q2 := (C.bel.cell (p := ⟨b, off + j * 6 + 2, none⟩) hb).trans q2
          replace q3 := (C.bel.cell (p := ⟨b, off + j * 6 + 3, none⟩) hb).trans q3
          replace q4 := (C.bel.cell (p := ⟨b, off + j * 6 + 4, none⟩) hb).trans q4
          replace q5 := (C.bel.cell (p := ⟨b, off + j * 6 + 5, none⟩) hb).trans q5
          have C4 := C.below (box_below wr (.cells #[.int .i64 k1, .string t1, .int .i64 n1, .slice so sn sc, .slice ao an ac, .slice uo un uc] 31))
          obtain ⟨z0, z1, z2, z3, z4, z5⟩ := box6 (allocNew wr (.cells #[.int .i64 k1, .string t1, .int .i64 n1, .slice so sn sc, .slice ao an ac, .slice uo un uc] 31))
          have zc := C4.bg
          unfold cloG at zc
          obtain ⟨eF, eG⟩ := hFk.out j y hy
          have hp1 := psum_le G (i := j + 1) (m := L) (by omega)
          simp only [psum] at hp1
          rw [eG] at hp1
          have hfg := hFG.out j (by omega)
          have hmm := HM.out
          have hbb := HB.out
          have hcal := HIH.out y (.int .i64 k1) (.string t1) (.int .i64 n1) (.slice so sn sc) (.slice ao an ac) (.slice uo un uc) _ _ _ _ _ hv C4 (by omega)
          unfold GnP at hcal
          have HE : Hid (F j = gat d y) := eF
          clear hp1 hfg hmm hbb eF eG hc hv
          go_wp2_with (first
            | (go_at_call 39; (with_reducible refine hcal.mono ?_); rintro e w5 ⟨rfl, o5, c5', G5⟩))
          go_roundw
          case rel =>
            refine ⟨j + 1, o5, c5', by omega, by go_num, ?_⟩
            have e1 : M0 + (pcat F (j + 1)).length = M0 + (pcat F j).length + (gat d y).length := by simp only [pcat, List.length_append]; rw [HE.out]; omega
            have e2 : l0 ++ pcat F (j + 1) = l0 ++ pcat F j ++ gat d y := by simp only [pcat]; rw [HE.out, List.append_assoc]
            rw [e1, e2]
            exact G5
          case measure => simp [intOf]; omega
        · obtain rfl : j = L := by omega
          have t3 : decide ((j : Int) < (j : Int)) = false := by simp
          go_wp2
          (try simp only [Exit.inBlock, Exit.then])
          refine bodyPost_end (v := .tuple #[]) (by simp [results, Tryz.results39]) rfl ?_
          exact ⟨rfl, o1, c1, C⟩
    · skip
      have e2x : ((21 : Int) == 2) = false := rfl
      go_enter Tryz.func39, Tryz.ntmps39
      go_upto_region 7 with (at_builtin; refine wpList_append_run rfl _ _ _ rfl _ (by exact hrun) ?_)
      generalize w10.setCell ⟨pn, 0, none⟩ (.slice co (m + 1) cc) = W1 at *
      clear z0 z1 z2 z3 z4 z5 y0 y1 y2 y3 y4 y5 rt10 hrun hown gr10 bn0 bn10 bc10 bf10 RX kx
      go_wp2
      go_loopw [20] (fun i V => ∃ (j : Nat) (o1 : Option Addr) (c1 : Nat), j ≤ L ∧ i = .int .i64 (j : Nat) ∧ Gn w0 V pn pg o1 (M0 + (pcat F j).length) c1 (l0 ++ pcat F j)) (fun i _ => L - (intOf i).toNat)
      case atStart => exact ⟨0, _, _, Nat.zero_le _, rfl, by simpa [pcat] using G3⟩
      case round =>
        obtain ⟨j, o1, c1, hj, rfl, C⟩ := hrel
        clear G3
        by_cases hlt : j < L
        · have t3 : decide ((j : Int) < (L : Int)) = true := by simp; omega
          have bj : (j : Int) < (L : Int) := by omega
          obtain ⟨y, hy⟩ : ∃ y, x.ks[j]? = some y := ⟨x.ks[j]'(by omega), by simp⟩
          obtain ⟨b, off, rfl, hb, hc⟩ := HK.out.cells (by omega)
          obtain ⟨c0, cc1, c2, c3, c4, c5, hv, q0, q1, q2, q3, q4, q5⟩ := hc j y hy
          obtain ⟨k1, t1, n1, so, sn, sc, ao, an, ac, uo, un, uc, ev⟩ := hv.form
          injection ev with ev0 ev
          injection ev with ev1 ev
          injection ev with ev2 ev
          injection ev with ev3 ev
          injection ev with ev4 ev
          injection ev with ev5 ev
          subst ev0 ev1 ev2 ev3 ev4 ev5
          replace q0 := (C.bel.cell (p := ⟨b, off + j * 6, none⟩) hb).trans q0
          replace q1 := (C.bel.cell (p := ⟨b, off + j * 6 + 1, none⟩) hb).trans q1
          replace q2 := (C.bel.cell (p := ⟨b, off + j * 6 + 2, none⟩) hb).trans q2
          replace q3 := (C.bel.cell (p := ⟨b, off + j * 6 + 3, none⟩) hb).trans q3
          replace q4 := (C.bel.cell (p := ⟨b, off + j * 6 + 4, none⟩) hb).trans q4
          replace q5 := (C.bel.cell (p := ⟨b, off + j * 6 + 5, none⟩) hb).trans q5
          have C4 := C.below (box_below wr (.cells #[.int .i64 k1, .string t1, .int .i64 n1, .slice so sn sc, .slice ao an ac, .slice uo un uc] 31))
          obtain ⟨z0, z1, z2, z3, z4, z5⟩ := box6 (allocNew wr (.cells #[.int .i64 k1, .string t1, .int .i64 n1, .slice so sn sc, .slice ao an ac, .slice uo un uc] 31))
          have zc := C4.bg
          unfold cloG at zc
          obtain ⟨eF, eG⟩ := hFk.out j y hy
          have hp1 := psum_le G (i := j + 1) (m := L) (by omega)
          simp only [psum] at hp1
          rw [eG] at hp1
          have hfg := hFG.out j (by omega)
          have hmm := HM.out
          have hbb := HB.out
          have hcal := HIH.out y (.int .i64 k1) (.string t1) (.int .i64 n1) (.slice so sn sc) (.slice ao an ac) (.slice uo un uc) _ _ _ _ _ hv C4 (by omega)
          unfold GnP at hcal
          have HE : Hid (F j = gat d y) := eF
          clear hp1 hfg hmm hbb eF eG hc hv
          go_wp2_with (first
            | (go_at_call 39; (with_reducible refine hcal.mono ?_); rintro e w5 ⟨rfl, o5, c5', G5⟩))
          go_roundw
          case rel =>
            refine ⟨j + 1, o5, c5', by omega, by go_num, ?_⟩
            have e1 : M0 + (pcat F (j + 1)).length = M0 + (pcat F j).length + (gat d y).length := by simp only [pcat, List.length_append]; rw [HE.out]; omega
            have e2 : l0 ++ pcat F (j + 1) = l0 ++ pcat F j ++ gat d y := by simp only [pcat]; rw [HE.out, List.append_assoc]
            rw [e1, e2]
            exact G5
          case measure => simp [intOf]; omega
        · obtain rfl : j = L := by omega
          have t3 : decide ((j : Int) < (j : Int)) = false := by simp
          go_wp2
          (try simp only [Exit.inBlock, Exit.then])
          refine bodyPost_end (v := .tuple #[]) (by simp [results, Tryz.results39]) rfl ?_
          exact ⟨rfl, o1, c1, C⟩
    · skip
      have e2x : ((11 : Int) == 2) = false := rfl
      have e2y : ((11 : Int) == 21) = false := rfl
      go_enter Tryz.func39, Tryz.ntmps39
      go_upto_region 7 with (at_builtin; refine wpList_append_run rfl _ _ _ rfl _ (by exact hrun) ?_)
      generalize w10.setCell ⟨pn, 0, none⟩ (.slice co (m + 1) cc) = W1 at *
      clear z0 z1 z2 z3 z4 z5 y0 y1 y2 y3 y4 y5 rt10 hrun hown gr10 bn0 bn10 bc10 bf10 RX kx
      go_wp2
      go_loopw [20] (fun i V => ∃ (j : Nat) (o1 : Option Addr) (c1 : Nat), j ≤ L ∧ i = .int .i64 (j : Nat) ∧ Gn w0 V pn pg o1 (M0 + (pcat F j).length) c1 (l0 ++ pcat F j)) (fun i _ => L - (intOf i).toNat)
      case atStart => exact ⟨0, _, _, Nat.zero_le _, rfl, by simpa [pcat] using G3⟩
      case round =>
        obtain ⟨j, o1, c1, hj, rfl, C⟩ := hrel
        clear G3
        by_cases hlt : j < L
        · have t3 : decide ((j : Int) < (L : Int)) = true := by simp; omega
          have bj : (j : Int) < (L : Int) := by omega
          obtain ⟨y, hy⟩ : ∃ y, x.ks[j]? = some y := ⟨x.ks[j]'(by omega), by simp⟩
          obtain ⟨b, off, rfl, hb, hc⟩ := HK.out.cells (by omega)
          obtain ⟨c0, cc1, c2, c3, c4, c5, hv, q0, q1, q2, q3, q4, q5⟩ := hc j y hy
          obtain ⟨k1, t1, n1, so, sn, sc, ao, an, ac, uo, un, uc, ev⟩ := hv.form
          injection ev with ev0 ev
          injection ev with ev1 ev
          injection ev with ev2 ev
          injection ev with ev3 ev
          injection ev with ev4 ev
          injection ev with ev5 ev
          subst ev0 ev1 ev2 ev3 ev4 ev5
          replace q0 := (C.bel.cell (p := ⟨b, off + j * 6, none⟩) hb).trans q0
          replace q1 := (C.bel.cell (p := ⟨b, off + j * 6 + 1, none⟩) hb).trans q1
          replace q2 := (C.bel.cell (p := ⟨b, off + j * 6 + 2, none⟩) hb).trans q2
          replace q3 := (C.bel.cell (p := ⟨b, off + j * 6 + 3, none⟩) hb).trans q3
          replace q4 := (C.bel.cell (p := ⟨b, off + j * 6 + 4, none⟩) hb).trans q4
          replace q5 := (C.bel.cell (p := ⟨b, off + j * 6 + 5, none⟩) hb).trans q5
          have C4 := C.below (box_below wr (.cells #[.int .i64 k1, .string t1, .int .i64 n1, .slice so sn sc, .slice ao an ac, .slice uo un uc] 31))
          obtain ⟨z0, z1, z2, z3, z4, z5⟩ := box6 (allocNew wr (.cells #[.int .i64 k1, .string t1, .int .i64 n1, .slice so sn sc, .slice ao an ac, .slice uo un uc] 31))
          have zc := C4.bg
          unfold cloG at zc
          obtain ⟨eF, eG⟩ := hFk.out j y hy
          have hp1 := psum_le G (i := j + 1) (m := L) (by omega)
          simp only [psum] at hp1
          rw [eG] at hp1
          have hfg := hFG.out j (by omega)
          have hmm := HM.out
          have hbb := HB.out
          have hcal := HIH.out y (.int .i64 k1) (.string t1) (.int .i64 n1) (.slice so sn sc) (.slice ao an ac) (.slice uo un uc) _ _ _ _ _ hv C4 (by omega)
          unfold GnP at hcal
          have HE : Hid (F j = gat d y) := eF
          clear hp1 hfg hmm hbb eF eG hc hv
          go_wp2_with (first
            | (go_at_call 39; (with_reducible refine hcal.mono ?_); rintro e w5 ⟨rfl, o5, c5', G5⟩))
          go_roundw
          case rel =>
            refine ⟨j + 1, o5, c5', by omega, by go_num, ?_⟩
            have e1 : M0 + (pcat F (j + 1)).length = M0 + (pcat F j).length + (gat d y).length := by simp only [pcat, List.length_append]; rw [HE.out]; omega
            have e2 : l0 ++ pcat F (j + 1) = l0 ++ pcat F j ++ gat d y := by simp only [pcat]; rw [HE.out, List.append_assoc]
            rw [e1, e2]
            exact G5
          case measure => simp [intOf]; omega
        · obtain rfl : j = L := by omega
          have t3 : decide ((j : Int) < (j : Int)) = false := by simp
          go_wp2
          (try simp only [Exit.inBlock, Exit.then])
          refine bodyPost_end (v := .tuple #[]) (by simp [results, Tryz.results39]) rfl ?_
          exact ⟨rfl, o1, c1, C⟩
theorem gather_any : ∀ (d : Nat) (y : Tr d) (c0 c1 c2 c3 c4 c5 : Value) (w0 W : World) (pn pg : Nat) (o : Option Addr) (m c : Nat) (l : List ByteArray), Tv w0 d y [c0, c1, c2, c3, c4, c5] → Gn w0 W pn pg o m c l → m + nds d y ≤ 4097 → Calls Tryz.prog 39 #[.agg #[c0, c1, c2, c3, c4, c5], .pointer (some ⟨pn, 0, none⟩), .pointer (some ⟨pg, 0, none⟩)] W fun e w' => GnP w0 pn pg m l (gat d y) e w'
  | 0, _, _, _, _, _, _, _, _, _, _, _, _, _, _, _, h, _, _ => h.elim
  | d + 1, y, c0, c1, c2, c3, c4, c5, w0, W, pn, pg, o, m, c, l, h, hG, hm => by
    obtain ⟨⟨so, sn, sc, ao, an, ac, ko, kc, ev, h1, h2, h3, h4, h5, h6⟩, _, _, _⟩ := h
    injection ev with ev0 ev
    injection ev with ev1 ev
    injection ev with ev2 ev
    injection ev with ev3 ev
    injection ev with ev4 ev
    injection ev with ev5 ev
    subst ev0 ev1 ev2 ev3 ev4 ev5
    exact gather_one d y _ _ ko o kc m c l w0 W pn pg hG h5 hm (fun z c0 c1 c2 c3 c4 c5 V o m c l hz hG hm => gather_any d z c0 c1 c2 c3 c4 c5 w0 V pn pg o m c l hz hG hm)
end Go.Proofs.YtiahilelcppfgaaGreat
