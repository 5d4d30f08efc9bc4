
/- Contract of package digit: copying. -/

import Derived.Test.YtjnlkdeiccllgaaZF
import Derived.Deep.QuietTactic
import Derived.BigQuiet



namespace Go.Proofs.Ytjnlkdeiccllgaa

open Go.RowKit

set_option linter.unusedVariables false

/-- How many atoms an item has. -/
def wdA (sy : List Int) : Nat := (pr (sy.drop 1)).toNat
/-- How often a number is gone through. -/
def cpR (sx sy : List Int) : Int := if sx.length = 0 then tal sy else 1
theorem drop_may {sy : List Int} (h : mayF sy = 0) : mayF (sy.drop 1) = 0 := by
  cases sy with
  | nil => rfl
  | cons z l =>
    obtain ⟨h1, h2, h3⟩ := mayF_zero h
    have hz : 0 ≤ z := h1 0 (by simp)
    have hl : ∀ k, k < l.length → 0 ≤ nth l k := fun k hk => by have := h1 (k + 1) (by simp; omega); simpa [nth] using this
    have hp := pz_pos (l := l) l.length (Nat.le_refl _) hl
    rw [List.take_length] at hp
    refine mayF_ok hl (by simp at h2; simp; omega) ?_
    have e : ∀ (q : List Int) (a b : Int), q.foldl (fun p z => if z = 0 then p else p * z) (a * b) = a * q.foldl (fun p z => if z = 0 then p else p * z) b := by
      intro q
      induction q with
      | nil => intro a b; rfl
      | cons y q ih =>
        intro a b
        rw [List.foldl_cons, List.foldl_cons]
        split
        · exact ih a b
        · rw [Int.mul_assoc]; exact ih a (b * y)
    have e2 : pz (z :: l) = if z = 0 then pz l else z * pz l := by
      unfold pz
      rw [List.foldl_cons]
      split
      · rfl
      · have := e l z 1
        rw [Int.mul_one] at this
        rw [Int.one_mul]; exact this
    show pz l ≤ 4096
    rw [e2] at h3
    split at h3
    · exact h3
    · have : 1 * pz l ≤ z * pz l := Int.mul_le_mul_of_nonneg_right (by omega) (by omega)
      omega
theorem wdA_eq {sy : List Int} (h : mayF sy = 0) : ((wdA sy : Nat) : Int) = pr (sy.drop 1) ∧ 0 ≤ pr (sy.drop 1) ∧ pr (sy.drop 1) ≤ 4096 := by
  have := pr_le (drop_may h)
  unfold wdA
  omega
theorem mayA_0 {sh at' : List Int} (h : mayA sh at' = 0) : mayF sh = 0 ∧ (at'.length : Int) = pr sh := by
  unfold mayA at h
  split at h
  · rename_i e; exact absurd h e
  · rename_i e
    split at h
    · cases h
    · rename_i e2; exact ⟨by simpa using e, by simpa using e2⟩
theorem tal_pr {sy : List Int} (h : sy.length ≠ 0) : pr sy = tal sy * pr (sy.drop 1) := by
  cases sy with
  | nil => simp at h
  | cons z l => rw [pr_cons]; rfl
theorem itm_ok {sy ay : List Int} (h : mayA sy ay = 0) : itm sy ay = tal sy := if_pos h
theorem sm_rep (x : Int) : ∀ c : Nat, sm (List.replicate c x) = (c : Int) * x
  | 0 => by simp [sm]
  | c + 1 => by rw [List.replicate_succ', sm_snoc, sm_rep x c, Int.natCast_add, Int.add_mul]; omega
/-- What copying is made of: the atoms, the numbers, and how many. -/
structure Cp (sx ax sy ay : List Int) (tl : Nat) : Prop where
  tal : tal sy = (tl : Int)
  tl4 : tl ≤ 4096
  ax4 : ax.length ≤ 4096
  ay4 : ay.length ≤ 4096
  cut : (takL sx ax tl).length * wdA sy = (takL sy ay ax.length).length
  lm : (takL sy ay ax.length).length ≤ 4096
  ln : (takL sx ax tl).length ≤ 4096
  sum : sm (takL sx ax tl) = cpR sx sy * sm ax
  r4 : 0 ≤ cpR sx sy ∧ cpR sx sy ≤ 4096
  xs : sx.length = 0 → ax.length = 1
  ys : sy.length = 0 → ay.length = 1
theorem one_len {sx ax : List Int} (h : mayA sx ax = 0) (h0 : sx.length = 0) : ax.length = 1 := by
  have := (mayA_0 h).2
  rw [List.eq_nil_of_length_eq_zero h0] at this
  simp [pr] at this
  omega
theorem takL_len (sh at' : List Int) (n : Nat) : (takL sh at' n).length = if sh.length = 0 then at'.length * n else at'.length := by
  unfold takL; split
  · exact repL_len _ _
  · rfl
theorem atoms_le {sx ax : List Int} (h : mayA sx ax = 0) : ax.length ≤ 4096 := by
  have := (mayA_0 h).2
  have := (pr_le (mayA_0 h).1).2
  omega
theorem cp_of {sx ax sy ay : List Int} (hx : mayA sx ax = 0) (hy : mayA sy ay = 0) (hl : sx.length = 0 ∨ sy.length = 0 ∨ (ax.length : Int) = Go.Proofs.Ytjnlkdeiccllgaa.tal sy) : Cp sx ax sy ay (Go.Proofs.Ytjnlkdeiccllgaa.tal sy).toNat := by
  obtain ⟨fy, ly⟩ := mayA_0 hy
  have tb := tal_bd fy
  have x4 := atoms_le hx
  have y4 := atoms_le hy
  have wb := wdA_eq fy
  have e1 : ((Go.Proofs.Ytjnlkdeiccllgaa.tal sy).toNat : Int) = Go.Proofs.Ytjnlkdeiccllgaa.tal sy := Int.toNat_of_nonneg tb.1
  generalize htl : (Go.Proofs.Ytjnlkdeiccllgaa.tal sy).toNat = tl at *
  have hcut : (takL sx ax tl).length * wdA sy = (takL sy ay ax.length).length ∧ (takL sx ax tl).length ≤ 4096 ∧ (takL sy ay ax.length).length ≤ 4096 := by
    rw [takL_len, takL_len]
    by_cases h1 : sy.length = 0
    · have ey := one_len hy h1
      have esy := List.eq_nil_of_length_eq_zero h1
      have ew : wdA sy = 1 := by rw [esy]; rfl
      have et : tl = 1 := by rw [esy] at e1; have : Go.Proofs.Ytjnlkdeiccllgaa.tal [] = 1 := rfl; omega
      rw [if_pos h1, ey, ew, et, Nat.mul_one, Nat.one_mul, Nat.mul_one]
      by_cases h2 : sx.length = 0
      · rw [if_pos h2]; omega
      · rw [if_neg h2]; omega
    · rw [if_neg h1]
      have ep := tal_pr h1
      rw [← ly, ← e1, ← wb.1] at ep
      have ep' : tl * wdA sy = ay.length := by have := ep.symm; rw [← Int.natCast_mul] at this; exact Int.ofNat_inj.1 this
      by_cases h2 : sx.length = 0
      · rw [if_pos h2, one_len hx h2, Nat.one_mul]; omega
      · rw [if_neg h2]
        have : ax.length = tl := by rcases hl with h | h | h <;> omega
        rw [this]; omega
  refine ⟨e1.symm, by omega, x4, y4, hcut.1, hcut.2.2, hcut.2.1, ?_, ?_, one_len hx, one_len hy⟩
  · unfold takL cpR
    by_cases h2 : sx.length = 0
    · rw [if_pos h2, if_pos h2]
      obtain ⟨a, ha⟩ := List.length_eq_one_iff.1 (one_len hx h2)
      rw [ha, repL_one, sm_rep, e1]
      simp [sm]
    · rw [if_neg h2, if_neg h2, Int.one_mul]
  · unfold cpR; split <;> omega
theorem numbers_bd {ns : List Int} (h : ∀ k, k < ns.length → 0 ≤ nth ns k) (hs : sm ns ≤ 4096) : ∀ k, k < ns.length → 0 ≤ nth ns k ∧ nth ns k ≤ 4096 := fun k hk => by
  have a := sm_up h ns.length (Nat.le_refl _) (k + 1) (by omega)
  have b := (sm_up h ns.length (Nat.le_refl _) k (by omega)).1
  rw [take_nth hk, sm_snoc, List.take_length] at a
  have := h k hk
  omega
theorem takL_pos {sx ax : List Int} {n : Nat} (h : ∀ k, k < ax.length → 0 ≤ nth ax k) : ∀ k, k < (takL sx ax n).length → 0 ≤ nth (takL sx ax n) k := by
  intro k hk
  rw [takL_len] at hk
  unfold takL
  split
  · rename_i e
    rw [if_pos e] at hk
    rw [repL_nth ax n k hk]
    exact h _ (Nat.mod_lt _ (by rcases Nat.eq_zero_or_pos ax.length with e | e; (· rw [e, Nat.zero_mul] at hk; omega); exact e))
  · rename_i e
    rw [if_neg e] at hk
    exact h k hk

theorem DuQ.drewN {w W : World} {so : Option Addr} {sn sc : Nat} {ao : Option Addr} {an ac : Nat} {uo : Option Addr} {un uc : Nat} {bo : Option Addr} {bn bc : Nat} (h : DuQ w W so sn sc ao an ac uo un uc bo bn bc) : ∀ n, DuQ w (W.drewN n) so sn sc ao an ac uo un uc bo bn bc
  | 0 => h
  | n + 1 => (h.drewN n).below (B := (W.drewN n).heap.size) (Below.refl _ _).drew (h.drewN n).sz
theorem split1 (uo : Option Addr) (un uc : Nat) (sy : List Int) (w : World) (h : Rd w uo un sy) (hs : Sl uo un uc) (hn : un ≤ 4096) :
    Calls Try.prog 33 #[.slice uo un uc, .int .i64 (-1)] w fun e w' => ∃ o1 n1 c1 o2 n2 c2, e = .returned (.tuple #[.slice o1 n1 c1, .slice o2 n2 c2]) ∧ Rd w' o2 n2 (sy.drop 1) ∧ Sl o2 n2 c2 ∧ n2 ≤ 4096 ∧ Below w.heap.size w w' := by
  refine (split_any uo un uc sy (-1) w h hs (by omega) (by omega)).mono ?_
  rintro e w' ⟨o1, c1, o2, c2, he, f1, f2, ap, b⟩
  have er : rankF un (-1) = un - 1 := by unfold rankF; rw [if_neg (by omega)]; omega
  rw [er] at he f2
  have ed : sy.drop (un - (un - 1)) = sy.drop 1 := by
    by_cases h0 : un = 0
    · have : sy = [] := List.eq_nil_of_length_eq_zero (by rw [h.len, h0])
      rw [this]; simp
    · rw [show un - (un - 1) = 1 by omega]
  rw [ed] at f2
  exact ⟨o1, _, c1, o2, _, c2, he, f2.rd, f2.sl, by omega, b⟩
theorem conc_T (V : World) (T : Nat) (o2 : Option Addr) (n2 c2 : Nat) (ys : List Int) (hT : T ≤ 4096) (h : Rd V o2 n2 ys) (hs : Sl o2 n2 c2) (hn : n2 ≤ 4096) :
    Calls Try.prog 34 #[.slice (some ⟨V.heap.size + 1, 0, none⟩) 2 2] ((V.alloc (.cells #[.int .i64 (T : Nat)] 3)).alloc (.cells #[.slice (some ⟨V.heap.size, 0, none⟩) 1 1, .slice o2 n2 c2] 22)) fun e w' => ∃ co c, e = .returned (.slice co (1 + n2) c) ∧ Ft 3 w' V.heap.size co (1 + n2) c ((T : Int) :: ys) ∧ Below V.heap.size V w' := by
  have L0 : Ft 3 (V.alloc (.cells #[.int .i64 (T : Nat)] 3)) V.heap.size (some ⟨V.heap.size, 0, none⟩) 1 1 [(T : Int)] := ft_new 3 V [(T : Int)] (by simp) (num1 (by omega) (by omega))
  have k1 := box_below V (.cells #[.int .i64 (T : Nat)] 3)
  have k2 := box_below (V.alloc (.cells #[.int .i64 (T : Nat)] 3)) (.cells #[.slice (some ⟨V.heap.size, 0, none⟩) 1 1, .slice o2 n2 c2] 22)
  have hv := allocNew (V.alloc (.cells #[.int .i64 (T : Nat)] 3)) (.cells #[.slice (some ⟨V.heap.size, 0, none⟩) 1 1, .slice o2 n2 c2] 22)
  simp only [World.size_alloc] at hv k2
  have h1 := (L0.below k2 (by simp))
  have kk := k1.trans (k2.mono (by omega))
  refine (concat_any (some ⟨V.heap.size, 0, none⟩) o2 1 1 n2 c2 (V.heap.size + 1) [(T : Int)] ys _ hv h1.rd h1.sl ((h.below k1 (Nat.le_refl _)).below k2 (by simp)) hs (by omega) (by omega)).mono ?_
  rintro e w' ⟨co, c, he, f, b⟩
  exact ⟨co, c, he, f.mono kk.size, kk.trans (b.mono kk.size)⟩
theorem ret0 {w : World} {e : Ending} {w' : World} {E : Int} (he : e = .returned (.tuple #[.agg #[.slice none 0 0, .slice none 0 0], .int .i64 E])) (b : Below w.heap.size w w') : AnsQ w (fun S A => S = [] ∧ A = []) E e w' :=
  ⟨none, 0, 0, none, 0, 0, [], [], he, Ft.nil _ _ _, Ft.nil _ _ _, ⟨rfl, rfl⟩, b⟩

set_option maxHeartbeats 4000000 in
set_option maxRecDepth 20000 in
theorem copies_len_c (so ao uo bo : Option Addr) (sn sc an ac un uc bn bc : Nat) (sx ax sy ay : List Int) (w : World) (hx : Rd w so sn sx) (gx : Rd w ao an ax) (gsx : Sl ao an ac) (hy : Rd w uo un sy) (hsy : Sl uo un uc) (gy : Rd w bo bn ay) (gsy : Sl bo bn bc) (tl : Nat) (htl : itm sy ay = (tl : Int)) (tl4 : tl ≤ 4096) (an4 : an ≤ 4096) (un4 : un ≤ 4096) (h1 : 0 < sn) (h2 : 0 < un) (hb : an ≠ tl) :
    Calls Try.prog 24 #[.agg #[.slice so sn sc, .slice ao an ac], .agg #[.slice uo un uc, .slice bo bn bc]] w fun e w' => AnsQ w (fun S A => S = [] ∧ A = []) 11 e w' := by
  have D0 := du_startQ w so sn sc ao an ac uo un uc bo bn bc
  have s0 := D0.sz
  have cIt := fun V (D : DuQ w V so sn sc ao an ac uo un uc bo bn bc) => items_any uo bo un uc bn bc sy ay V (hy.below D.bel (Nat.le_refl _)) (gy.below D.bel (Nat.le_refl _))
  rw [htl] at cIt
  obtain ⟨x0, x1, _, _⟩ := box2 D0.x
  obtain ⟨x2, x3, _, _⟩ := box2 D0.y
  have al : ∀ V, DuQ w V so sn sc ao an ac uo un uc bo bn bc → V.cell? ⟨w.heap.size, 0, none⟩ = some (.slice so sn sc) ∧ V.cell? ⟨w.heap.size, 1, none⟩ = some (.slice ao an ac) ∧ V.cell? ⟨w.heap.size + 1, 0, none⟩ = some (.slice uo un uc) ∧ V.cell? ⟨w.heap.size + 1, 1, none⟩ = some (.slice bo bn bc) := fun V D => ⟨(box2 D.x).1, (box2 D.x).2.1, (box2 D.y).1, (box2 D.y).2.1⟩
  have DD : ∀ V, DuQ w V so sn sc ao an ac uo un uc bo bn bc → DuQ w V.drew so sn sc ao an ac uo un uc bo bn bc := fun V D => D.below (B := V.heap.size) (Below.refl _ _).drew D.sz
  clear htl
  have t1 : ((sn : Int) == 0) = false := by simp; omega
  have t1b : (sn == 0) = false := by simp; omega
  have t1c : ¬ sn = 0 := by omega
  have t2 : decide (0 < un) = true := by simpa using h2
  have t3 : (0 : Int) < (un : Int) := by omega
  have t4 : ((an : Int) != (tl : Int)) = true := by simp; omega
  have t4b : (an != tl) = true := by simpa using hb
  clear hb
  go_enter Try.func24, Try.ntmps24
  go_wp2
  have DB := DD _ D0
  have sB := DB.sz
  go_region_held3 (fun V => V.cell? ⟨w.heap.size, 0, none⟩ = some (.slice so sn sc) ∧ V.cell? ⟨w.heap.size, 1, none⟩ = some (.slice ao an ac) ∧ V.cell? ⟨w.heap.size + 1, 0, none⟩ = some (.slice uo un uc) ∧ V.cell? ⟨w.heap.size + 1, 1, none⟩ = some (.slice bo bn bc)) (first | exact al _ DB | exact al _ D1 | exact al _ D0)
    (first
      | (go_at_call 31; (with_reducible refine (cIt _ DB).mono ?_); rintro e w1 ⟨rfl, k1⟩; have D1 := DB.below k1 sB; have s1 := D1.sz; obtain ⟨y0, y1, _, _⟩ := box2 D1.x; obtain ⟨y2, y3, _, _⟩ := box2 D1.y; obtain ⟨r0, r1, r2, r3⟩ := box2 D1.r))
  go_wp2
  (try simp only [Exit.inBlock, Exit.then])
  refine bodyPost_ret (v := .tuple #[.agg #[.slice none 0 0, .slice none 0 0], .int .i64 11]) (by rw [results_cell_tmp rfl]; go_simp) rfl ?_
  exact ret0 rfl (below_set2 _ _ _ _ D1.bel (by omega) (Nat.le_refl _))

set_option maxHeartbeats 4000000 in
set_option maxRecDepth 20000 in
theorem copies_err_a (so ao uo bo : Option Addr) (sn sc an ac un uc bn bc : Nat) (sx ax sy ay : List Int) (w : World) (hx : Rd w so sn sx) (gx : Rd w ao an ax) (gsx : Sl ao an ac) (hy : Rd w uo un sy) (hsy : Sl uo un uc) (gy : Rd w bo bn ay) (gsy : Sl bo bn bc) (tl : Nat) (htl : itm sy ay = (tl : Int)) (tl4 : tl ≤ 4096) (an4 : an ≤ 4096) (un4 : un ≤ 4096) (h1 : sn = 0) (N E : Int) (hE : E ≠ 0) (hI : ∀ V, Below w.heap.size w V → Calls Try.prog 32 #[.slice ao an ac, .int .i64 (tl : Nat)] V fun e w' => e = .returned (.tuple #[.int .i64 N, .int .i64 E]) ∧ w' = V) :
    Calls Try.prog 24 #[.agg #[.slice so sn sc, .slice ao an ac], .agg #[.slice uo un uc, .slice bo bn bc]] w fun e w' => AnsQ w (fun S A => S = [] ∧ A = []) E e w' := by
  have D0 := du_startQ w so sn sc ao an ac uo un uc bo bn bc
  have s0 := D0.sz
  have cIt := fun V (D : DuQ w V so sn sc ao an ac uo un uc bo bn bc) => items_any uo bo un uc bn bc sy ay V (hy.below D.bel (Nat.le_refl _)) (gy.below D.bel (Nat.le_refl _))
  rw [htl] at cIt
  obtain ⟨x0, x1, _, _⟩ := box2 D0.x
  obtain ⟨x2, x3, _, _⟩ := box2 D0.y
  have al : ∀ V, DuQ w V so sn sc ao an ac uo un uc bo bn bc → V.cell? ⟨w.heap.size, 0, none⟩ = some (.slice so sn sc) ∧ V.cell? ⟨w.heap.size, 1, none⟩ = some (.slice ao an ac) ∧ V.cell? ⟨w.heap.size + 1, 0, none⟩ = some (.slice uo un uc) ∧ V.cell? ⟨w.heap.size + 1, 1, none⟩ = some (.slice bo bn bc) := fun V D => ⟨(box2 D.x).1, (box2 D.x).2.1, (box2 D.y).1, (box2 D.y).2.1⟩
  have DD : ∀ V, DuQ w V so sn sc ao an ac uo un uc bo bn bc → DuQ w V.drew so sn sc ao an ac uo un uc bo bn bc := fun V D => D.below (B := V.heap.size) (Below.refl _ _).drew D.sz
  clear htl
  subst h1
  have t5 : (E != 0) = true := by simpa using hE
  clear hE
  go_enter Try.func24, Try.ntmps24
  go_wp2_with (first
    | (go_at_call 31; (with_reducible refine (cIt _ D0).mono ?_); rintro e w1 ⟨rfl, k1⟩; have D1 := D0.below k1 s0; have s1 := D1.sz; obtain ⟨y0, y1, _, _⟩ := box2 D1.x; obtain ⟨y2, y3, _, _⟩ := box2 D1.y)
    | (go_at_call 32; (with_reducible refine (hI _ (D1).bel).mono ?_); rintro e w2 ⟨rfl, hw2⟩; rw [hw2]; clear hw2 w2; obtain ⟨r0, r1, r2, r3⟩ := box2 (D1).r))
  (try simp only [Exit.inBlock, Exit.then])
  refine bodyPost_ret (v := .tuple #[.agg #[.slice none 0 0, .slice none 0 0], .int .i64 E]) (by rw [results_cell_tmp rfl]; go_simp) rfl ?_
  exact ret0 rfl (below_set2 _ _ _ _ D1.bel (by omega) (Nat.le_refl _))

set_option maxHeartbeats 4000000 in
set_option maxRecDepth 20000 in
theorem copies_err_b (so ao uo bo : Option Addr) (sn sc an ac un uc bn bc : Nat) (sx ax sy ay : List Int) (w : World) (hx : Rd w so sn sx) (gx : Rd w ao an ax) (gsx : Sl ao an ac) (hy : Rd w uo un sy) (hsy : Sl uo un uc) (gy : Rd w bo bn ay) (gsy : Sl bo bn bc) (tl : Nat) (htl : itm sy ay = (tl : Int)) (tl4 : tl ≤ 4096) (an4 : an ≤ 4096) (un4 : un ≤ 4096) (h1 : 0 < sn) (h2 : un = 0) (N E : Int) (hE : E ≠ 0) (hI : ∀ V, Below w.heap.size w V → Calls Try.prog 32 #[.slice ao an ac, .int .i64 1] V fun e w' => e = .returned (.tuple #[.int .i64 N, .int .i64 E]) ∧ w' = V) :
    Calls Try.prog 24 #[.agg #[.slice so sn sc, .slice ao an ac], .agg #[.slice uo un uc, .slice bo bn bc]] w fun e w' => AnsQ w (fun S A => S = [] ∧ A = []) E e w' := by
  have D0 := du_startQ w so sn sc ao an ac uo un uc bo bn bc
  have s0 := D0.sz
  have cIt := fun V (D : DuQ w V so sn sc ao an ac uo un uc bo bn bc) => items_any uo bo un uc bn bc sy ay V (hy.below D.bel (Nat.le_refl _)) (gy.below D.bel (Nat.le_refl _))
  rw [htl] at cIt
  obtain ⟨x0, x1, _, _⟩ := box2 D0.x
  obtain ⟨x2, x3, _, _⟩ := box2 D0.y
  have al : ∀ V, DuQ w V so sn sc ao an ac uo un uc bo bn bc → V.cell? ⟨w.heap.size, 0, none⟩ = some (.slice so sn sc) ∧ V.cell? ⟨w.heap.size, 1, none⟩ = some (.slice ao an ac) ∧ V.cell? ⟨w.heap.size + 1, 0, none⟩ = some (.slice uo un uc) ∧ V.cell? ⟨w.heap.size + 1, 1, none⟩ = some (.slice bo bn bc) := fun V D => ⟨(box2 D.x).1, (box2 D.x).2.1, (box2 D.y).1, (box2 D.y).2.1⟩
  have DD : ∀ V, DuQ w V so sn sc ao an ac uo un uc bo bn bc → DuQ w V.drew so sn sc ao an ac uo un uc bo bn bc := fun V D => D.below (B := V.heap.size) (Below.refl _ _).drew D.sz
  clear htl
  have t1 : ((sn : Int) == 0) = false := by simp; omega
  have t1b : (sn == 0) = false := by simp; omega
  have t1c : ¬ sn = 0 := by omega
  subst h2
  have t5 : (E != 0) = true := by simpa using hE
  clear hE
  go_enter Try.func24, Try.ntmps24
  go_wp2
  go_quiet (fail)
  have DB := D0.drewN nq
  have sB := DB.sz
  obtain ⟨y0, y1, _, _⟩ := box2 DB.x
  obtain ⟨y2, y3, _, _⟩ := box2 DB.y
  go_wp2_with (first
    | (go_at_call 32; (with_reducible refine (hI _ (DB).bel).mono ?_); rintro e w2 ⟨rfl, hw2⟩; rw [hw2]; clear hw2 w2; obtain ⟨r0, r1, r2, r3⟩ := box2 (DB).r))
  (try simp only [Exit.inBlock, Exit.then])
  refine bodyPost_ret (v := .tuple #[.agg #[.slice none 0 0, .slice none 0 0], .int .i64 E]) (by rw [results_cell_tmp rfl]; go_simp) rfl ?_
  exact ret0 rfl (below_set2 _ _ _ _ DB.bel (by omega) (Nat.le_refl _))

set_option maxHeartbeats 4000000 in
set_option maxRecDepth 20000 in
theorem copies_err_c (so ao uo bo : Option Addr) (sn sc an ac un uc bn bc : Nat) (sx ax sy ay : List Int) (w : World) (hx : Rd w so sn sx) (gx : Rd w ao an ax) (gsx : Sl ao an ac) (hy : Rd w uo un sy) (hsy : Sl uo un uc) (gy : Rd w bo bn ay) (gsy : Sl bo bn bc) (tl : Nat) (htl : itm sy ay = (tl : Int)) (tl4 : tl ≤ 4096) (an4 : an ≤ 4096) (un4 : un ≤ 4096) (h1 : 0 < sn) (h2 : 0 < un) (hb : an = tl) (N E : Int) (hE : E ≠ 0) (hI : ∀ V, Below w.heap.size w V → Calls Try.prog 32 #[.slice ao an ac, .int .i64 1] V fun e w' => e = .returned (.tuple #[.int .i64 N, .int .i64 E]) ∧ w' = V) :
    Calls Try.prog 24 #[.agg #[.slice so sn sc, .slice ao an ac], .agg #[.slice uo un uc, .slice bo bn bc]] w fun e w' => AnsQ w (fun S A => S = [] ∧ A = []) E e w' := by
  have D0 := du_startQ w so sn sc ao an ac uo un uc bo bn bc
  have s0 := D0.sz
  have cIt := fun V (D : DuQ w V so sn sc ao an ac uo un uc bo bn bc) => items_any uo bo un uc bn bc sy ay V (hy.below D.bel (Nat.le_refl _)) (gy.below D.bel (Nat.le_refl _))
  rw [htl] at cIt
  obtain ⟨x0, x1, _, _⟩ := box2 D0.x
  obtain ⟨x2, x3, _, _⟩ := box2 D0.y
  have al : ∀ V, DuQ w V so sn sc ao an ac uo un uc bo bn bc → V.cell? ⟨w.heap.size, 0, none⟩ = some (.slice so sn sc) ∧ V.cell? ⟨w.heap.size, 1, none⟩ = some (.slice ao an ac) ∧ V.cell? ⟨w.heap.size + 1, 0, none⟩ = some (.slice uo un uc) ∧ V.cell? ⟨w.heap.size + 1, 1, none⟩ = some (.slice bo bn bc) := fun V D => ⟨(box2 D.x).1, (box2 D.x).2.1, (box2 D.y).1, (box2 D.y).2.1⟩
  have DD : ∀ V, DuQ w V so sn sc ao an ac uo un uc bo bn bc → DuQ w V.drew so sn sc ao an ac uo un uc bo bn bc := fun V D => D.below (B := V.heap.size) (Below.refl _ _).drew D.sz
  clear htl
  have t1 : ((sn : Int) == 0) = false := by simp; omega
  have t1b : (sn == 0) = false := by simp; omega
  have t1c : ¬ sn = 0 := by omega
  have t2 : decide (0 < un) = true := by simpa using h2
  have t3 : (0 : Int) < (un : Int) := by omega
  have t4 : ((an : Int) != (tl : Int)) = false := by simp; omega
  have t4b : (an != tl) = false := by simpa using hb
  have HB : Hid (an = tl) := hb
  clear hb
  have t5 : (E != 0) = true := by simpa using hE
  clear hE
  go_enter Try.func24, Try.ntmps24
  go_wp2
  have DB := DD _ D0
  have sB := DB.sz
  go_region_held3 (fun V => V.cell? ⟨w.heap.size, 0, none⟩ = some (.slice so sn sc) ∧ V.cell? ⟨w.heap.size, 1, none⟩ = some (.slice ao an ac) ∧ V.cell? ⟨w.heap.size + 1, 0, none⟩ = some (.slice uo un uc) ∧ V.cell? ⟨w.heap.size + 1, 1, none⟩ = some (.slice bo bn bc)) (first | exact al _ DB | exact al _ D1 | exact al _ D0)
    (first
      | (go_at_call 31; (with_reducible refine (cIt _ DB).mono ?_); rintro e w1 ⟨rfl, k1⟩; have D1 := DB.below k1 sB; have s1 := D1.sz; obtain ⟨y0, y1, _, _⟩ := box2 D1.x; obtain ⟨y2, y3, _, _⟩ := box2 D1.y; obtain ⟨r0, r1, r2, r3⟩ := box2 D1.r))
  go_wp2_with (first
    | (go_at_call 32; (with_reducible refine (hI _ (D1).bel).mono ?_); rintro e w2 ⟨rfl, hw2⟩; rw [hw2]; clear hw2 w2; obtain ⟨r0, r1, r2, r3⟩ := box2 (D1).r))
  (try simp only [Exit.inBlock, Exit.then])
  refine bodyPost_ret (v := .tuple #[.agg #[.slice none 0 0, .slice none 0 0], .int .i64 E]) (by rw [results_cell_tmp rfl]; go_simp) rfl ?_
  exact ret0 rfl (below_set2 _ _ _ _ D1.bel (by omega) (Nat.le_refl _))

set_option maxHeartbeats 4000000 in
set_option maxRecDepth 20000 in
theorem copies_may_a (so ao uo bo : Option Addr) (sn sc an ac un uc bn bc : Nat) (sx ax sy ay : List Int) (w : World) (hx : Rd w so sn sx) (gx : Rd w ao an ax) (gsx : Sl ao an ac) (hy : Rd w uo un sy) (hsy : Sl uo un uc) (gy : Rd w bo bn ay) (gsy : Sl bo bn bc) (tl : Nat) (htl : itm sy ay = (tl : Int)) (tl4 : tl ≤ 4096) (an4 : an ≤ 4096) (un4 : un ≤ 4096) (h1 : sn = 0) (T : Nat) (T4 : T ≤ 4096) (hI : ∀ V, Below w.heap.size w V → Calls Try.prog 32 #[.slice ao an ac, .int .i64 (tl : Nat)] V fun e w' => e = .returned (.tuple #[.int .i64 (T : Nat), .int .i64 0]) ∧ w' = V) (F : Int) (hF : mayF ((T : Int) :: sy.drop 1) = F) (hF0 : F ≠ 0) :
    Calls Try.prog 24 #[.agg #[.slice so sn sc, .slice ao an ac], .agg #[.slice uo un uc, .slice bo bn bc]] w fun e w' => AnsQ w (fun S A => S = [] ∧ A = []) F e w' := by
  have D0 := du_startQ w so sn sc ao an ac uo un uc bo bn bc
  have s0 := D0.sz
  have cIt := fun V (D : DuQ w V so sn sc ao an ac uo un uc bo bn bc) => items_any uo bo un uc bn bc sy ay V (hy.below D.bel (Nat.le_refl _)) (gy.below D.bel (Nat.le_refl _))
  rw [htl] at cIt
  obtain ⟨x0, x1, _, _⟩ := box2 D0.x
  obtain ⟨x2, x3, _, _⟩ := box2 D0.y
  have al : ∀ V, DuQ w V so sn sc ao an ac uo un uc bo bn bc → V.cell? ⟨w.heap.size, 0, none⟩ = some (.slice so sn sc) ∧ V.cell? ⟨w.heap.size, 1, none⟩ = some (.slice ao an ac) ∧ V.cell? ⟨w.heap.size + 1, 0, none⟩ = some (.slice uo un uc) ∧ V.cell? ⟨w.heap.size + 1, 1, none⟩ = some (.slice bo bn bc) := fun V D => ⟨(box2 D.x).1, (box2 D.x).2.1, (box2 D.y).1, (box2 D.y).2.1⟩
  have DD : ∀ V, DuQ w V so sn sc ao an ac uo un uc bo bn bc → DuQ w V.drew so sn sc ao an ac uo un uc bo bn bc := fun V D => D.below (B := V.heap.size) (Below.refl _ _).drew D.sz
  clear htl
  subst h1
  have t6 : (F != 0) = true := by simpa using hF0
  clear hF0
  go_enter Try.func24, Try.ntmps24
  go_wp2_with (first
    | (go_at_call 31; (with_reducible refine (cIt _ D0).mono ?_); rintro e w1 ⟨rfl, k1⟩; have D1 := D0.below k1 s0; have s1 := D1.sz; obtain ⟨y0, y1, _, _⟩ := box2 D1.x; obtain ⟨y2, y3, _, _⟩ := box2 D1.y)
    | (go_at_call 32; (with_reducible refine (hI _ (D1).bel).mono ?_); rintro e w2 ⟨rfl, hw2⟩; rw [hw2]; clear hw2 w2)
    | (go_at_call 33; (with_reducible refine (split1 uo _ uc sy _ (hy.below (D1).bel (Nat.le_refl _)) hsy un4).mono ?_); rintro e w3 ⟨o1, n1, c1, o2, n2, c2, rfl, r3, l3, n24, k3⟩; have D3 := (D1).below k3 (D1).sz; have s3 := D3.sz)
    | (go_at_call 34; (with_reducible refine (conc_T w3 T o2 n2 c2 _ T4 r3 l3 n24).mono ?_); rintro e w4 ⟨o4, c4, rfl, f4, k4⟩; have D4 := D3.below k4 s3; have s4 := D4.sz; have cF := may_any _ _ c4 _ _ f4.rd; rw [hF] at cF)
    | (go_at_call 19; (with_reducible refine cF.mono ?_); rintro e w5 ⟨rfl, hw5⟩; rw [hw5]; clear hw5 w5; obtain ⟨r0, r1, r2, r3⟩ := box2 D4.r))
  (try simp only [Exit.inBlock, Exit.then])
  refine bodyPost_ret (v := .tuple #[.agg #[.slice none 0 0, .slice none 0 0], .int .i64 F]) (by rw [results_cell_tmp rfl]; go_simp) rfl ?_
  exact ret0 rfl (below_set2 _ _ _ _ D4.bel (by omega) (Nat.le_refl _))

set_option maxHeartbeats 4000000 in
set_option maxRecDepth 20000 in
theorem copies_may_b (so ao uo bo : Option Addr) (sn sc an ac un uc bn bc : Nat) (sx ax sy ay : List Int) (w : World) (hx : Rd w so sn sx) (gx : Rd w ao an ax) (gsx : Sl ao an ac) (hy : Rd w uo un sy) (hsy : Sl uo un uc) (gy : Rd w bo bn ay) (gsy : Sl bo bn bc) (tl : Nat) (htl : itm sy ay = (tl : Int)) (tl4 : tl ≤ 4096) (an4 : an ≤ 4096) (un4 : un ≤ 4096) (h1 : 0 < sn) (h2 : un = 0) (T : Nat) (T4 : T ≤ 4096) (hI : ∀ V, Below w.heap.size w V → Calls Try.prog 32 #[.slice ao an ac, .int .i64 1] V fun e w' => e = .returned (.tuple #[.int .i64 (T : Nat), .int .i64 0]) ∧ w' = V) (F : Int) (hF : mayF ((T : Int) :: sy.drop 1) = F) (hF0 : F ≠ 0) :
    Calls Try.prog 24 #[.agg #[.slice so sn sc, .slice ao an ac], .agg #[.slice uo un uc, .slice bo bn bc]] w fun e w' => AnsQ w (fun S A => S = [] ∧ A = []) F e w' := by
  have D0 := du_startQ w so sn sc ao an ac uo un uc bo bn bc
  have s0 := D0.sz
  have cIt := fun V (D : DuQ w V so sn sc ao an ac uo un uc bo bn bc) => items_any uo bo un uc bn bc sy ay V (hy.below D.bel (Nat.le_refl _)) (gy.below D.bel (Nat.le_refl _))
  rw [htl] at cIt
  obtain ⟨x0, x1, _, _⟩ := box2 D0.x
  obtain ⟨x2, x3, _, _⟩ := box2 D0.y
  have al : ∀ V, DuQ w V so sn sc ao an ac uo un uc bo bn bc → V.cell? ⟨w.heap.size, 0, none⟩ = some (.slice so sn sc) ∧ V.cell? ⟨w.heap.size, 1, none⟩ = some (.slice ao an ac) ∧ V.cell? ⟨w.heap.size + 1, 0, none⟩ = some (.slice uo un uc) ∧ V.cell? ⟨w.heap.size + 1, 1, none⟩ = some (.slice bo bn bc) := fun V D => ⟨(box2 D.x).1, (box2 D.x).2.1, (box2 D.y).1, (box2 D.y).2.1⟩
  have DD : ∀ V, DuQ w V so sn sc ao an ac uo un uc bo bn bc → DuQ w V.drew so sn sc ao an ac uo un uc bo bn bc := fun V D => D.below (B := V.heap.size) (Below.refl _ _).drew D.sz
  clear htl
  have t1 : ((sn : Int) == 0) = false := by simp; omega
  have t1b : (sn == 0) = false := by simp; omega
  have t1c : ¬ sn = 0 := by omega
  subst h2
  have t6 : (F != 0) = true := by simpa using hF0
  clear hF0
  go_enter Try.func24, Try.ntmps24
  go_wp2
  go_quiet (fail)
  have DB := D0.drewN nq
  have sB := DB.sz
  obtain ⟨y0, y1, _, _⟩ := box2 DB.x
  obtain ⟨y2, y3, _, _⟩ := box2 DB.y
  go_wp2_with (first
    | (go_at_call 32; (with_reducible refine (hI _ (DB).bel).mono ?_); rintro e w2 ⟨rfl, hw2⟩; rw [hw2]; clear hw2 w2)
    | (go_at_call 33; (with_reducible refine (split1 uo _ uc sy _ (hy.below (DB).bel (Nat.le_refl _)) hsy un4).mono ?_); rintro e w3 ⟨o1, n1, c1, o2, n2, c2, rfl, r3, l3, n24, k3⟩; have D3 := (DB).below k3 (DB).sz; have s3 := D3.sz)
    | (go_at_call 34; (with_reducible refine (conc_T w3 T o2 n2 c2 _ T4 r3 l3 n24).mono ?_); rintro e w4 ⟨o4, c4, rfl, f4, k4⟩; have D4 := D3.below k4 s3; have s4 := D4.sz; have cF := may_any _ _ c4 _ _ f4.rd; rw [hF] at cF)
    | (go_at_call 19; (with_reducible refine cF.mono ?_); rintro e w5 ⟨rfl, hw5⟩; rw [hw5]; clear hw5 w5; obtain ⟨r0, r1, r2, r3⟩ := box2 D4.r))
  (try simp only [Exit.inBlock, Exit.then])
  refine bodyPost_ret (v := .tuple #[.agg #[.slice none 0 0, .slice none 0 0], .int .i64 F]) (by rw [results_cell_tmp rfl]; go_simp) rfl ?_
  exact ret0 rfl (below_set2 _ _ _ _ D4.bel (by omega) (Nat.le_refl _))

set_option maxHeartbeats 4000000 in
set_option maxRecDepth 20000 in
theorem copies_may_c (so ao uo bo : Option Addr) (sn sc an ac un uc bn bc : Nat) (sx ax sy ay : List Int) (w : World) (hx : Rd w so sn sx) (gx : Rd w ao an ax) (gsx : Sl ao an ac) (hy : Rd w uo un sy) (hsy : Sl uo un uc) (gy : Rd w bo bn ay) (gsy : Sl bo bn bc) (tl : Nat) (htl : itm sy ay = (tl : Int)) (tl4 : tl ≤ 4096) (an4 : an ≤ 4096) (un4 : un ≤ 4096) (h1 : 0 < sn) (h2 : 0 < un) (hb : an = tl) (T : Nat) (T4 : T ≤ 4096) (hI : ∀ V, Below w.heap.size w V → Calls Try.prog 32 #[.slice ao an ac, .int .i64 1] V fun e w' => e = .returned (.tuple #[.int .i64 (T : Nat), .int .i64 0]) ∧ w' = V) (F : Int) (hF : mayF ((T : Int) :: sy.drop 1) = F) (hF0 : F ≠ 0) :
    Calls Try.prog 24 #[.agg #[.slice so sn sc, .slice ao an ac], .agg #[.slice uo un uc, .slice bo bn bc]] w fun e w' => AnsQ w (fun S A => S = [] ∧ A = []) F e w' := by
  have D0 := du_startQ w so sn sc ao an ac uo un uc bo bn bc
  have s0 := D0.sz
  have cIt := fun V (D : DuQ w V so sn sc ao an ac uo un uc bo bn bc) => items_any uo bo un uc bn bc sy ay V (hy.below D.bel (Nat.le_refl _)) (gy.below D.bel (Nat.le_refl _))
  rw [htl] at cIt
  obtain ⟨x0, x1, _, _⟩ := box2 D0.x
  obtain ⟨x2, x3, _, _⟩ := box2 D0.y
  have al : ∀ V, DuQ w V so sn sc ao an ac uo un uc bo bn bc → V.cell? ⟨w.heap.size, 0, none⟩ = some (.slice so sn sc) ∧ V.cell? ⟨w.heap.size, 1, none⟩ = some (.slice ao an ac) ∧ V.cell? ⟨w.heap.size + 1, 0, none⟩ = some (.slice uo un uc) ∧ V.cell? ⟨w.heap.size + 1, 1, none⟩ = some (.slice bo bn bc) := fun V D => ⟨(box2 D.x).1, (box2 D.x).2.1, (box2 D.y).1, (box2 D.y).2.1⟩
  have DD : ∀ V, DuQ w V so sn sc ao an ac uo un uc bo bn bc → DuQ w V.drew so sn sc ao an ac uo un uc bo bn bc := fun V D => D.below (B := V.heap.size) (Below.refl _ _).drew D.sz
  clear htl
  have t1 : ((sn : Int) == 0) = false := by simp; omega
  have t1b : (sn == 0) = false := by simp; omega
  have t1c : ¬ sn = 0 := by omega
  have t2 : decide (0 < un) = true := by simpa using h2
  have t3 : (0 : Int) < (un : Int) := by omega
  have t4 : ((an : Int) != (tl : Int)) = false := by simp; omega
  have t4b : (an != tl) = false := by simpa using hb
  have HB : Hid (an = tl) := hb
  clear hb
  have t6 : (F != 0) = true := by simpa using hF0
  clear hF0
  go_enter Try.func24, Try.ntmps24
  go_wp2
  have DB := DD _ D0
  have sB := DB.sz
  go_region_held3 (fun V => V.cell? ⟨w.heap.size, 0, none⟩ = some (.slice so sn sc) ∧ V.cell? ⟨w.heap.size, 1, none⟩ = some (.slice ao an ac) ∧ V.cell? ⟨w.heap.size + 1, 0, none⟩ = some (.slice uo un uc) ∧ V.cell? ⟨w.heap.size + 1, 1, none⟩ = some (.slice bo bn bc)) (first | exact al _ DB | exact al _ D1 | exact al _ D0)
    (first
      | (go_at_call 31; (with_reducible refine (cIt _ DB).mono ?_); rintro e w1 ⟨rfl, k1⟩; have D1 := DB.below k1 sB; have s1 := D1.sz; obtain ⟨y0, y1, _, _⟩ := box2 D1.x; obtain ⟨y2, y3, _, _⟩ := box2 D1.y; obtain ⟨r0, r1, r2, r3⟩ := box2 D1.r))
  go_wp2_with (first
    | (go_at_call 32; (with_reducible refine (hI _ (D1).bel).mono ?_); rintro e w2 ⟨rfl, hw2⟩; rw [hw2]; clear hw2 w2)
    | (go_at_call 33; (with_reducible refine (split1 uo _ uc sy _ (hy.below (D1).bel (Nat.le_refl _)) hsy un4).mono ?_); rintro e w3 ⟨o1, n1, c1, o2, n2, c2, rfl, r3, l3, n24, k3⟩; have D3 := (D1).below k3 (D1).sz; have s3 := D3.sz)
    | (go_at_call 34; (with_reducible refine (conc_T w3 T o2 n2 c2 _ T4 r3 l3 n24).mono ?_); rintro e w4 ⟨o4, c4, rfl, f4, k4⟩; have D4 := D3.below k4 s3; have s4 := D4.sz; have cF := may_any _ _ c4 _ _ f4.rd; rw [hF] at cF)
    | (go_at_call 19; (with_reducible refine cF.mono ?_); rintro e w5 ⟨rfl, hw5⟩; rw [hw5]; clear hw5 w5; obtain ⟨r0, r1, r2, r3⟩ := box2 D4.r))
  (try simp only [Exit.inBlock, Exit.then])
  refine bodyPost_ret (v := .tuple #[.agg #[.slice none 0 0, .slice none 0 0], .int .i64 F]) (by rw [results_cell_tmp rfl]; go_simp) rfl ?_
  exact ret0 rfl (below_set2 _ _ _ _ D4.bel (by omega) (Nat.le_refl _))
end Go.Proofs.Ytjnlkdeiccllgaa
