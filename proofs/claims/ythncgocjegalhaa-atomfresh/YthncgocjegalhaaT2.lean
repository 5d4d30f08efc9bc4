
/- Contract of package atom's Monad. -/

import Derived.Test.YthncgocjegalhaaT1

namespace Go.Proofs.Ythncgocjegalhaa

open Go.RowKit

set_option linter.unusedVariables false

theorem nth_set' {zs : List Int} {j k : Nat} {u : Int} (hj : j < zs.length) : nth (zs.set j u) k = if k = j then u else nth zs k := by
  unfold nth
  by_cases h : k = j
  · subst h; simp [hj]
  · rw [if_neg h, List.getD_eq_getElem?_getD, List.getD_eq_getElem?_getD, List.getElem?_set_ne (fun e => h e.symm)]

theorem Ft.set {e : TypeId} {w : World} {B g : Nat} {n cap : Nat} {zs : List Int} (h : Ft e w B (some ⟨g, 0, none⟩) n cap zs) (j : Nat) (hj : j < n) (u : Int) (h1 : -9223372036854775808 ≤ u) (h2 : u ≤ 9223372036854775807) :
    Ft e (w.setCell ⟨g, j, none⟩ (.int .i64 u)) B (some ⟨g, 0, none⟩) n cap (zs.set j u) := by
  have hl := h.rd.len
  have hs := (h.own.stored j (.int .i64 u)).1
  rw [show (zs.map (Value.int .i64)).set j (.int .i64 u) = (zs.set j u).map (Value.int .i64) by rw [List.map_set]] at hs
  obtain ⟨ao, c, e, hf⟩ := Ft.mk' (zs := zs.set j u) (by rw [List.length_set]; exact hl) h.rd.room (fun k hk => by
    rw [nth_set' (by omega)]
    split
    · exact ⟨h1, h2⟩
    · exact h.rd.num k hk) hs
  cases e
  exact hf

theorem made_ft (w : World) (n : Nat) (hr : n * 8 ≤ 140737488351232) : Ft 2 (w.alloc (.cells (madeCells #[.int .i64 0] n) 2)) w.heap.size (some ⟨w.heap.size, 0, none⟩) n n (List.replicate n 0) := by
  have hown : (w.alloc (.cells (madeCells #[.int .i64 0] n) 2)).ownsRow w.heap.size 2 1 (.slice (some ⟨w.heap.size, 0, none⟩) n n) n ((List.replicate n 0).map (Value.int .i64)) := by
    refine ⟨by simp, .inr ⟨w.heap.size, n, madeCells #[.int .i64 0] n, rfl, by omega, allocNew _ _, Nat.le_refl _, by unfold maxLen; omega, by simp [madeCells], ?_⟩⟩
    rw [Nat.mul_one]
    apply List.ext_getElem
    · simp [madeCells]
    · intro i h1 h2; simp [madeCells, Nat.mod_one]
  obtain ⟨a, c, e, hf⟩ := Ft.mk' (zs := List.replicate n 0) (by simp) hr (fun k hk => by simp [nth, hk]) hown
  cases e
  exact hf

/-- A row that is being filled: its first k are f's; below it nothing has changed. -/
structure Rwt (W V : World) (n k : Nat) (f : Nat → Int) : Prop where
  bel : Below W.heap.size W V
  row : ∃ zs, Ft 2 V W.heap.size (some ⟨W.heap.size, 0, none⟩) n n zs ∧ ∀ j, j < k → nth zs j = f j
theorem Rwt.start (W : World) (n : Nat) (f : Nat → Int) (hr : n * 8 ≤ 140737488351232) : Rwt W (W.alloc (.cells (madeCells #[.int .i64 0] n) 2)) n 0 f :=
  ⟨box_below W _, _, made_ft W n hr, fun j hj => by omega⟩
theorem Rwt.below {W V V' : World} {n k : Nat} {f : Nat → Int} (h : Rwt W V n k f) (b : Below V.heap.size V V') : Rwt W V' n k f := by
  obtain ⟨zs, hf, hz⟩ := h.row
  exact ⟨h.bel.trans (b.mono h.bel.size), zs, hf.below b (Nat.le_refl _), hz⟩
theorem Rwt.drewN {W V : World} {n k : Nat} {f : Nat → Int} (h : Rwt W V n k f) (m : Nat) : Rwt W (V.drewN m) n k f := h.below (below_drewN (Below.refl _ _) m)
theorem Rwt.slot {W V : World} {n k : Nat} {f : Nat → Int} (h : Rwt W V n k f) (j : Nat) (hj : j < n) : ∃ u, V.cell? ⟨W.heap.size, j, none⟩ = some u ∧ V.frozen? ⟨W.heap.size, j, none⟩ = false := by
  obtain ⟨zs, hf, hz⟩ := h.row
  obtain ⟨b, off, e, hb, hc⟩ := hf.rd.cells (by omega)
  cases e
  have c := hc j hj
  rw [Nat.zero_add] at c
  rcases hf.own.2 with ⟨e1, h0⟩ | ⟨g, c, cur, e1, hB2, hg, r⟩
  · cases e1
  · cases e1
    exact ⟨_, c, frozen_of_row V W.heap.size j _ _ hg⟩
theorem Rwt.set {W V : World} {n k : Nat} {f : Nat → Int} (h : Rwt W V n k f) (hk : k < n) (h1 : -9223372036854775808 ≤ f k) (h2 : f k ≤ 9223372036854775807) : Rwt W (V.setCell ⟨W.heap.size, k, none⟩ (.int .i64 (f k))) n (k + 1) f := by
  obtain ⟨zs, hf, hz⟩ := h.row
  refine ⟨h.bel.setCell (p := ⟨W.heap.size, k, none⟩) (Nat.le_refl _) _, _, hf.set k hk (f k) h1 h2, fun j hj => ?_⟩
  rw [nth_set' (by rw [hf.rd.len]; exact hk)]
  split
  · rename_i e; rw [e]
  · exact hz j (by omega)
theorem Rwt.all {W V : World} {n : Nat} {f : Nat → Int} (h : Rwt W V n n f) (ys : List Int) (hl : ys.length = n) (hy : ∀ j, j < n → nth ys j = f j) : Ft 2 V W.heap.size (some ⟨W.heap.size, 0, none⟩) n n ys := by
  obtain ⟨zs, hf, hz⟩ := h.row
  have e : zs = ys := ext_nth (by rw [hf.rd.len, hl]) (fun k hk => by rw [hf.rd.len] at hk; rw [hz k hk, hy k hk])
  rw [← e]; exact hf

/-- The first error of a list. -/
def fe : List Int → Int
  | [] => 0
  | e :: r => if e = 0 then fe r else e
theorem fe_none : ∀ (l : List Int), (∀ j, j < l.length → nth l j = 0) → fe l = 0
  | [], _ => rfl
  | e :: r, h => by
    have h0 : e = 0 := h 0 (by simp)
    unfold fe
    rw [if_pos h0]
    exact fe_none r (fun j hj => h (j + 1) (by simp; omega))
theorem fe_at : ∀ (l : List Int) (k : Nat), k < l.length → (∀ j, j < k → nth l j = 0) → nth l k ≠ 0 → fe l = nth l k
  | [], k, hk, _, _ => by simp at hk
  | e :: r, 0, hk, _, h => by
    have h0 : e ≠ 0 := h
    unfold fe
    rw [if_neg h0]; rfl
  | e :: r, k + 1, hk, hz, h => by
    have h0 : e = 0 := hz 0 (by omega)
    unfold fe
    rw [if_pos h0]
    exact fe_at r k (by simpa using hk) (fun j hj => hz (j + 1) (by omega)) h
theorem nth_maps {l : List Int} {f : Int → Int} {j : Nat} (h : j < l.length) : nth (l.map f) j = f (nth l j) := by
  rw [nth_lt (by simpa using h), nth_lt h]; simp

/-- A list where there is no error. -/
def onOk (e : Int) (l : List Int) : List Int := if e = 0 then l else []
theorem onOk_ok {e : Int} (h : e = 0) (l : List Int) : onOk e l = l := if_pos h
theorem onOk_no {e : Int} (h : e ≠ 0) (l : List Int) : onOk e l = [] := if_neg h

/-- What Monad answers: the error, the shape, the atoms. -/
def moE (op : Int) (sh at' : List Int) : Int := if mayA sh at' ≠ 0 then 1 else if lck (Nm.mE op 0) = true then Nm.mE op 0 else fe (at'.map (Nm.mE op))
def moS (op : Int) (sh at' : List Int) : List Int := onOk (moE op sh at') sh
def moA (op : Int) (sh at' : List Int) : List Int := onOk (moE op sh at') (at'.map (Nm.mN op))

set_option maxHeartbeats 1000000 in
theorem monad_bad (op : Int) (so ao : Option Addr) (sn sc an ac : Nat) (sh at' : List Int) (w : World) (h : Rd w so sn sh) (g : Rd w ao an at') (h0 : mayA sh at' ≠ 0) :
    Calls Try.prog 26 #[.int .i64 op, .agg #[.slice so sn sc, .slice ao an ac]] w fun e w' => e = .returned (.tuple #[.agg #[.slice none 0 0, .slice none 0 0], .int .i64 1]) ∧ Below w.heap.size w w' := by
  have I0 := it_start w so sn sc ao an ac sh at' h g
  have hm := mayA_any so ao sn sc an ac sh at' _ I0.s I0.a
  have h0' : (mayA sh at' != 0) = true := by simpa using h0
  clear h0
  go_enter Try.func26, Try.ntmps26
  go_wp2_with (go_at_call 21; refine hm.mono ?_; rintro e w1 ⟨rfl, h1⟩; have I1 := I0.below h1; obtain ⟨c0, c1, z0, z1⟩ := box2 I1.r)
  (try simp only [Exit.inBlock, Exit.then])
  refine bodyPost_ret (v := .tuple #[.agg #[.slice none 0 0, .slice none 0 0], .int .i64 1]) (by rw [results_cell_tmp rfl]; go_simp) rfl ?_
  exact ⟨rfl, below_set2 _ _ _ _ I1.bel (by omega) (Nat.le_refl _)⟩

set_option maxHeartbeats 1000000 in
theorem monad_lack (op : Int) (so ao : Option Addr) (sn sc an ac : Nat) (sh at' : List Int) (w : World) (h : Rd w so sn sh) (g : Rd w ao an at') (h0 : mayA sh at' = 0) (hk : lck (Nm.mE op 0) = true) :
    Calls Try.prog 26 #[.int .i64 op, .agg #[.slice so sn sc, .slice ao an ac]] w fun e w' => e = .returned (.tuple #[.agg #[.slice none 0 0, .slice none 0 0], .int .i64 (Nm.mE op 0)]) ∧ Below w.heap.size w w' := by
  have I0 := it_start w so sn sc ao an ac sh at' h g
  have hm := mayA_any so ao sn sc an ac sh at' _ I0.s I0.a
  rw [h0] at hm
  have hmo := fun W => monadOf_no op W hk
  have hne : (Nm.mE op 0 != 0) = true := by simpa using lck_ne hk
  clear h0 hk
  generalize Nm.mE op 0 = E at *
  go_enter Try.func26, Try.ntmps26
  go_wp2_with (first
    | (go_at_call 21; refine hm.mono ?_; rintro e w1 ⟨rfl, h1⟩; have I1 := I0.below h1)
    | (go_at_call 41; refine (hmo _).mono ?_; rintro e w2 ⟨rfl, h2⟩; have I2 := I1.below h2; obtain ⟨c0, c1, z0, z1⟩ := box2 I2.r))
  (try simp only [Exit.inBlock, Exit.then])
  refine bodyPost_ret (v := .tuple #[.agg #[.slice none 0 0, .slice none 0 0], .int .i64 E]) (by rw [results_cell_tmp rfl]; go_simp) rfl ?_
  exact ⟨rfl, below_set2 _ _ _ _ I2.bel (by omega) (Nat.le_refl _)⟩

set_option maxHeartbeats 4000000 in
set_option maxRecDepth 20000 in
theorem monad_go (op : Int) (so ao : Option Addr) (sn sc an ac : Nat) (sh at' : List Int) (w : World) (h : Rd w so sn sh) (g : Rd w ao an at') (h0 : mayA sh at' = 0) (hk : lck (Nm.mE op 0) = false) :
    Calls Try.prog 26 #[.int .i64 op, .agg #[.slice so sn sc, .slice ao an ac]] w fun e w' => ∃ o1 n1 c1 o2 n2 c2, e = .returned (.tuple #[.agg #[.slice o1 n1 c1, .slice o2 n2 c2], .int .i64 (fe (at'.map (Nm.mE op)))]) ∧ Ft 3 w' w.heap.size o1 n1 c1 (onOk (fe (at'.map (Nm.mE op))) sh) ∧ Ft 2 w' w.heap.size o2 n2 c2 (onOk (fe (at'.map (Nm.mE op))) (at'.map (Nm.mN op))) ∧ Below w.heap.size w w' := by
  have I0 := it_start w so sn sc ao an ac sh at' h g
  have hm := mayA_any so ao sn sc an ac sh at' _ I0.s I0.a
  rw [h0] at hm
  have hmo := fun W => monadOf_ok op W hk
  dsimp only [mFn] at hmo
  have groom := g.room
  have gl : Hid (at'.length = an) := g.len
  have hmk := run_make_row' (P := Try.prog) 34 2 (.int .i64 0) 8 Try.underlying34 infoL3 rfl .i64 .i64 an (by omega) (by omega)
  have hnum : Hid (∀ k, k < an → Nm.inr (nth at' k) = true) := fun k hk => by rw [Nm.inr_iff]; exact g.num k hk
  clear h0 hk
  go_enter Try.func26, Try.ntmps26
  go_wp2_with (first
    | (go_at_call 21; refine hm.mono ?_; rintro e W1 ⟨rfl, h1⟩; have I1 := I0.below h1)
    | (go_at_call 41; refine (hmo _).mono ?_; rintro e W2 ⟨rfl, hg, h2⟩; have I2 := I1.below h2; have I2' := I2; obtain ⟨q0, q1, _, _, _, _⟩ := I2'; have R0 := Rwt.start W2 an (fun j => Nm.mN op (nth at' j)) groom; have I3 := I2.below R0.bel; obtain ⟨r0, r1, _, _, _, _⟩ := I3))
  have s1 := h1.size
  have s2 := h2.size
  have lw : w.heap.size + 1 < W2.heap.size := (Array.getElem?_eq_some_iff.1 I2.r).1
  have lg : W1.heap.size < W2.heap.size := World.block_lt_of_cell? W2 _ hg
  clear hmk hm hmo I0 q0 q1 r0 r1
  go_loopw [31] (fun i V => ∃ k : Nat, k ≤ an ∧ i = .int .i64 (k : Nat) ∧ (∀ j, j < k → Nm.mE op (nth at' j) = 0) ∧ Rwt W2 V an k (fun j => Nm.mN op (nth at' j))) (fun i _ => an - (intOf i).toNat)
  case atStart => exact ⟨0, Nat.zero_le _, rfl, fun j hj => by omega, R0⟩
  case round =>
    obtain ⟨k, hk, rfl, hE, L0⟩ := hrel
    have HE : Hid (∀ j, j < k → Nm.mE op (nth at' j) = 0) := hE
    clear hE R0
    by_cases hlt : k < an
    · obtain ⟨b, off, rfl, hb, hcs⟩ := (I2.a.below L0.bel (Nat.le_refl _)).cells (by omega)
      have c1 := hcs k hlt
      have hgV := (L0.bel.cell (p := ⟨W1.heap.size, 0, none⟩) lg).trans hg
      have hf := mFn_any W1.heap.size op (nth at' k) wr hgV (hnum.out k hlt)
      have bd := Nm.inr_iff.1 (Nm.inr_mN op (nth at' k) (hnum.out k hlt))
      clear hcs hgV
      by_cases he : Nm.mE op (nth at' k) = 0
      · have HE2 : Hid (Nm.mE op (nth at' k) = 0) := he
        rw [he] at hf
        clear he
        go_wp2_with (go_at_call 51; refine hf.mono ?_; rintro e W3 ⟨rfl, n, hW3⟩; have L3 := L0.drewN n; rw [← hW3] at L3; clear hW3; obtain ⟨u, x0, x1⟩ := L3.slot k hlt)
        go_roundw
        case rel => exact ⟨k + 1, by omega, by go_num, fun j hj => (by rcases Nat.lt_succ_iff_lt_or_eq.1 hj with h | h; exact HE.out j h; rw [h]; exact HE2.out), L3.set hlt bd.1 bd.2⟩
        case measure => simp [intOf]; omega
      · have HE2 : Hid (Nm.mE op (nth at' k) ≠ 0) := he
        have he' : (Nm.mE op (nth at' k) != 0) = true := by simpa using he
        have hfe : Hid (fe (at'.map (Nm.mE op)) = Nm.mE op (nth at' k)) := by
          show _ = _
          rw [fe_at _ k (by rw [List.length_map, gl.out]; exact hlt) (fun j hj => by rw [nth_maps (by rw [gl.out]; omega)]; exact HE.out j hj) (by rw [nth_maps (by rw [gl.out]; exact hlt)]; exact he), nth_maps (by rw [gl.out]; exact hlt)]
        clear he
        go_wp2_with (go_at_call 51; refine hf.mono ?_; rintro e W3 ⟨rfl, n, hW3⟩; have L3 := L0.drewN n; rw [← hW3] at L3; clear hW3; obtain ⟨u, x0, x1⟩ := L3.slot k hlt; have L4 := L3.set hlt bd.1 bd.2; have I4 := I2.below L4.bel; obtain ⟨y0, y1, y2, y3⟩ := box2 I4.r)
        (try simp only [Exit.inBlock, Exit.then])
        refine bodyPost_ret (v := .tuple #[.agg #[.slice none 0 0, .slice none 0 0], .int .i64 (Nm.mE op (nth at' k))]) (by rw [results_cell_tmp rfl]; go_simp) rfl ?_
        rw [hfe.out, onOk_no HE2.out, onOk_no HE2.out]
        exact ⟨none, 0, 0, none, 0, 0, rfl, Ft.nil _ _ _, Ft.nil _ _ _, below_set2 _ _ _ _ I4.bel (by omega) (Nat.le_refl _)⟩
    · obtain rfl : k = an := by omega
      have t1 : decide ((k : Int) < (k : Int)) = false := by simp
      have hfe : Hid (fe (at'.map (Nm.mE op)) = 0) := fe_none _ (fun j hj => by rw [List.length_map, gl.out] at hj; rw [nth_maps (by rw [gl.out]; exact hj)]; exact HE.out j hj)
      have I4 := I2.below L0.bel
      have I4' := I4
      obtain ⟨q0, q1, _, _, _, _⟩ := I4'
      have rs := I4.s
      go_wp2_with (at_builtin; refine wpList_copy rfl _ _ rfl _ _ _ _ rfl rfl rs ?_; intro o3 c3 W3 f3 h3; have I5 := I4.below h3; obtain ⟨y0, y1, y2, y3⟩ := box2 I5.r)
      (try simp only [Exit.inBlock, Exit.then])
      refine bodyPost_ret (v := .tuple #[.agg #[.slice o3 sn c3, .slice (some ⟨W2.heap.size, 0, none⟩) k k], .int .i64 0]) (by rw [results_cell_tmp rfl]; go_simp) rfl ?_
      rw [hfe.out, onOk_ok rfl, onOk_ok rfl]
      have sz := L0.bel.size
      have F := (L0.all (at'.map (Nm.mN op)) (by rw [List.length_map, gl.out]) (fun j hj => nth_maps (by rw [gl.out]; exact hj))).below h3 (Nat.le_refl _)
      have G := Fr.ft f3
      refine ⟨_, _, _, _, _, _, rfl, (G.keep1 (set2 _ _ _ _ _ _) (fun b off e => ?_)).mono (by omega), (F.keep1 (set2 _ _ _ _ _ _) (fun b off e => ?_)).mono (by omega), below_set2 _ _ _ _ I5.bel (by omega) (Nat.le_refl _)⟩
      · intro e'; have := (G.at b off e).1; cases e'; omega
      · intro e'; cases e; simp only [Option.some.injEq] at e'; omega

theorem monad_any (op : Int) (so ao : Option Addr) (sn sc an ac : Nat) (sh at' : List Int) (w : World) (h : Rd w so sn sh) (g : Rd w ao an at') :
    Calls Try.prog 26 #[.int .i64 op, .agg #[.slice so sn sc, .slice ao an ac]] w fun e w' => ∃ o1 n1 c1 o2 n2 c2, e = .returned (.tuple #[.agg #[.slice o1 n1 c1, .slice o2 n2 c2], .int .i64 (moE op sh at')]) ∧ Ft 3 w' w.heap.size o1 n1 c1 (moS op sh at') ∧ Ft 2 w' w.heap.size o2 n2 c2 (moA op sh at') ∧ Below w.heap.size w w' := by
  by_cases h0 : mayA sh at' = 0
  · cases hk : lck (Nm.mE op 0)
    · have e1 : moE op sh at' = fe (at'.map (Nm.mE op)) := by unfold moE; rw [if_neg (by omega), if_neg (by rw [hk]; decide)]
      unfold moS moA
      rw [e1]
      exact monad_go op so ao sn sc an ac sh at' w h g h0 hk
    · have e1 : moE op sh at' = Nm.mE op 0 := by unfold moE; rw [if_neg (by omega), if_pos hk]
      unfold moS moA
      rw [e1, onOk_no (lck_ne hk), onOk_no (lck_ne hk)]
      exact (monad_lack op so ao sn sc an ac sh at' w h g h0 hk).mono fun e w' ⟨h1, h2⟩ => ⟨none, 0, 0, none, 0, 0, h1, Ft.nil _ _ _, Ft.nil _ _ _, h2⟩
  · have e1 : moE op sh at' = 1 := by unfold moE; rw [if_pos h0]
    unfold moS moA
    rw [e1, onOk_no (by decide), onOk_no (by decide)]
    exact (monad_bad op so ao sn sc an ac sh at' w h g h0).mono fun e w' ⟨h1, h2⟩ => ⟨none, 0, 0, none, 0, 0, h1, Ft.nil _ _ _, Ft.nil _ _ _, h2⟩
end Go.Proofs.Ythncgocjegalhaa
