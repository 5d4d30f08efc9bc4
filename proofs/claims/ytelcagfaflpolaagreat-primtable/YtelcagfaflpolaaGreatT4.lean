
/- Contract of package atom's Dyad: pair by pair. -/

import Derived.Test.YtelcagfaflpolaaGreatC4
import Derived.Test.YtelcagfaflpolaaGreatNAny
import Derived.Test.YtelcagfaflpolaaGreatC9
import Derived.Test.YtelcagfaflpolaaGreatJoin
import Derived.Deep.RegionHeld3


namespace Go.Proofs.YtelcagfaflpolaaGreat

open Go.RowKit

set_option linter.unusedVariables false

/-- Is it an error of the row, whatever the numbers are? -/
def lck (e : Int) : Bool := e == 1 || e == 16
theorem lck_no {e : Int} (h1 : e ≠ 1) (h2 : e ≠ 16) : lck e = false := by unfold lck; simp [h1, h2]
theorem lck_ne {e : Int} (h : lck e = true) : e ≠ 0 := by rintro rfl; exact absurd h (by decide)

theorem lacks_any (e : Int) (w : World) : Calls Tryz.prog 91 #[.int .i64 e] w fun x w' => x = .returned (.bool (lck e)) ∧ w' = w := by
  by_cases c1 : e = 1
  · subst c1
    go_enter Tryz.func91, Tryz.ntmps91
    go_wp2
    go_ret
    exact ⟨rfl, rfl⟩
  have b1 : (e == 1) = false := by simp [c1]
  by_cases c2 : e = 16
  · subst c2
    go_enter Tryz.func91, Tryz.ntmps91
    go_wp2
    go_ret
    exact ⟨rfl, rfl⟩
  have b2 : (e == 16) = false := by simp [c2]
  have hl := lck_no c1 c2
  rw [hl]
  go_enter Tryz.func91, Tryz.ntmps91
  go_wp2
  go_ret
  exact ⟨rfl, rfl⟩

/-- The closure that monadOf hands back, at the block that keeps its op. -/
def mFn (g : Nat) : Value := .func (.func 92) #[] #[.pointer (some ⟨g, 0, none⟩)]
def dFn (g : Nat) : Value := .func (.func 94) #[] #[.pointer (some ⟨g, 0, none⟩)]

theorem monadOf_no (op : Int) (w : World) (h : lck (Nm.mE op 0) = true) : Calls Tryz.prog 81 #[.int .i64 op] w fun e w' => e = .returned (.tuple #[.nilFunc, .int .i64 (Nm.mE op 0)]) ∧ Below w.heap.size w w' := by
  have hc := fun W => Nm.monad_any op 0 rfl W
  have hk := fun W => lacks_any (Nm.mE op 0) W
  rw [h] at hk
  generalize Nm.mE op 0 = E at *
  generalize Nm.mN op 0 = N at *
  go_enter Tryz.func81, Tryz.ntmps81
  go_wp2_with (first | (go_at_call 90; refine (hc _).mono ?_; rintro e w1 ⟨rfl, n, rfl⟩) | (go_at_call 91; refine (hk _).mono ?_; rintro e w2 ⟨rfl, rfl⟩))
  go_ret2
  exact ⟨rfl, below_drewN (box_below w _) _⟩

theorem monadOf_ok (op : Int) (w : World) (h : lck (Nm.mE op 0) = false) : Calls Tryz.prog 81 #[.int .i64 op] w fun e w' => e = .returned (.tuple #[mFn w.heap.size, .int .i64 0]) ∧ w'.cell? ⟨w.heap.size, 0, none⟩ = some (.int .i64 op) ∧ Below w.heap.size w w' := by
  have hc := fun W => Nm.monad_any op 0 rfl W
  have hk := fun W => lacks_any (Nm.mE op 0) W
  rw [h] at hk
  generalize Nm.mE op 0 = E at *
  generalize Nm.mN op 0 = N at *
  go_enter Tryz.func81, Tryz.ntmps81
  go_wp2_with (first | (go_at_call 90; refine (hc _).mono ?_; rintro e w1 ⟨rfl, n, rfl⟩) | (go_at_call 91; refine (hk _).mono ?_; rintro e w2 ⟨rfl, rfl⟩))
  go_ret2
  refine ⟨rfl, ?_, below_drewN (box_below w _) _⟩
  simp

theorem dyadOf_no (op : Int) (w : World) (h : lck (Nm.dE op 0 0) = true) : Calls Tryz.prog 82 #[.int .i64 op] w fun e w' => e = .returned (.tuple #[.nilFunc, .int .i64 (Nm.dE op 0 0)]) ∧ Below w.heap.size w w' := by
  have hc := fun W => Nm.dyad_any op 0 0 rfl rfl W
  have hk := fun W => lacks_any (Nm.dE op 0 0) W
  rw [h] at hk
  generalize Nm.dE op 0 0 = E at *
  generalize Nm.dN op 0 0 = N at *
  go_enter Tryz.func82, Tryz.ntmps82
  go_wp2_with (first | (go_at_call 93; refine (hc _).mono ?_; rintro e w1 ⟨rfl, n, rfl⟩) | (go_at_call 91; refine (hk _).mono ?_; rintro e w2 ⟨rfl, rfl⟩))
  go_ret2
  exact ⟨rfl, below_drewN (box_below w _) _⟩

theorem dyadOf_ok (op : Int) (w : World) (h : lck (Nm.dE op 0 0) = false) : Calls Tryz.prog 82 #[.int .i64 op] w fun e w' => e = .returned (.tuple #[dFn w.heap.size, .int .i64 0]) ∧ w'.cell? ⟨w.heap.size, 0, none⟩ = some (.int .i64 op) ∧ Below w.heap.size w w' := by
  have hc := fun W => Nm.dyad_any op 0 0 rfl rfl W
  have hk := fun W => lacks_any (Nm.dE op 0 0) W
  rw [h] at hk
  generalize Nm.dE op 0 0 = E at *
  generalize Nm.dN op 0 0 = N at *
  go_enter Tryz.func82, Tryz.ntmps82
  go_wp2_with (first | (go_at_call 93; refine (hc _).mono ?_; rintro e w1 ⟨rfl, n, rfl⟩) | (go_at_call 91; refine (hk _).mono ?_; rintro e w2 ⟨rfl, rfl⟩))
  go_ret2
  refine ⟨rfl, ?_, below_drewN (box_below w _) _⟩
  simp

theorem mFn_any (g : Nat) (op y : Int) (w : World) (hg : w.cell? ⟨g, 0, none⟩ = some (.int .i64 op)) (hy : Nm.inr y = true) :
    Calls Tryz.prog 92 #[.int .i64 y, .pointer (some ⟨g, 0, none⟩)] w fun e w' => e = .returned (.tuple #[.int .i64 (Nm.mN op y), .int .i64 (Nm.mE op y)]) ∧ ∃ n, w' = w.drewN n := by
  have hc := fun W => Nm.monad_any op y hy W
  generalize Nm.mE op y = E at *
  generalize Nm.mN op y = N at *
  go_enter Tryz.func92, Tryz.ntmps92
  go_wp2_with (go_at_call 90; refine (hc _).mono ?_; rintro e w1 ⟨rfl, n, rfl⟩)
  go_ret2
  exact ⟨rfl, _, rfl⟩
theorem dFn_any (g : Nat) (op x y : Int) (w : World) (hg : w.cell? ⟨g, 0, none⟩ = some (.int .i64 op)) (hx : Nm.inr x = true) (hy : Nm.inr y = true) :
    Calls Tryz.prog 94 #[.int .i64 x, .int .i64 y, .pointer (some ⟨g, 0, none⟩)] w fun e w' => e = .returned (.tuple #[.int .i64 (Nm.dN op x y), .int .i64 (Nm.dE op x y)]) ∧ ∃ n, w' = w.drewN n := by
  have hc := fun W => Nm.dyad_any op x y hx hy W
  generalize Nm.dE op x y = E at *
  generalize Nm.dN op x y = N at *
  go_enter Tryz.func94, Tryz.ntmps94
  go_wp2_with (go_at_call 93; refine (hc _).mono ?_; rintro e w1 ⟨rfl, n, rfl⟩)
  go_ret2
  exact ⟨rfl, _, rfl⟩

theorem below_any (lo so : Option Addr) (ln lc sn sc : Nat) (L : List Int) (w : World) (h : Rd w lo ln L) (hs : Sl lo ln lc) (hsn : sn ≤ ln) :
    Calls Tryz.prog 83 #[.slice lo ln lc, .slice so sn sc] w fun e w' => e = .returned (.int .i64 (sizeF (L.drop sn))) ∧ w' = w := by
  have hle := hs.le
  have hmx := hs.max
  have hroom := h.room
  generalize hpo : (if lc = sn then lo else Option.map (fun x => x.add sn) lo) = po
  obtain ⟨r1, r2⟩ := h.sub hs hpo hsn (Nat.le_refl _)
  have e : (L.drop sn).take (ln - sn) = L.drop sn := List.take_of_length_le (by rw [List.length_drop, h.len]; omega)
  rw [e] at r1
  have hz := size_any po (ln - sn) (lc - sn) (L.drop sn) w r1
  generalize sizeF (L.drop sn) = Z at *
  generalize mayF (L.drop sn) = M at *
  clear r1 r2 e h hs
  go_enter Tryz.func83, Tryz.ntmps83
  go_wp2_with (go_at_call 22; refine hz.mono ?_; rintro e w1 ⟨rfl, rfl⟩)
  go_ret
  exact ⟨rfl, rfl⟩
end Go.Proofs.YtelcagfaflpolaaGreat


namespace Go.Proofs.YtelcagfaflpolaaGreat

open Go.RowKit

set_option linter.unusedVariables false

theorem nth_set' {zs : List Int} {j k : Nat} {u : Int} (hj : j < zs.length) : nth (zs.set j u) k = if k = j then u else nth zs k := by
  unfold nth
  by_cases h : k = j
  · subst h; simp [hj]
  · rw [if_neg h, List.getD_eq_getElem?_getD, List.getD_eq_getElem?_getD, List.getElem?_set_ne (fun e => h e.symm)]

theorem Ft.set {e : TypeId} {w : World} {B g : Nat} {n cap : Nat} {zs : List Int} (h : Ft e w B (some ⟨g, 0, none⟩) n cap zs) (j : Nat) (hj : j < n) (u : Int) (h1 : -9223372036854775808 ≤ u) (h2 : u ≤ 9223372036854775807) :
    Ft e (w.setCell ⟨g, j, none⟩ (.int .i64 u)) B (some ⟨g, 0, none⟩) n cap (zs.set j u) := by
  have hl := h.rd.len
  have hs := (h.own.stored j (.int .i64 u)).1
  rw [show (zs.map (Value.int .i64)).set j (.int .i64 u) = (zs.set j u).map (Value.int .i64) by rw [List.map_set]] at hs
  obtain ⟨ao, c, e, hf⟩ := Ft.mk' (zs := zs.set j u) (by rw [List.length_set]; exact hl) h.rd.room (fun k hk => by
    rw [nth_set' (by omega)]
    split
    · exact ⟨h1, h2⟩
    · exact h.rd.num k hk) hs
  cases e
  exact hf

theorem made_ft (w : World) (n : Nat) (hr : n * 8 ≤ 140737488351232) : Ft 2 (w.alloc (.cells (madeCells #[.int .i64 0] n) 2)) w.heap.size (some ⟨w.heap.size, 0, none⟩) n n (List.replicate n 0) := by
  have hown : (w.alloc (.cells (madeCells #[.int .i64 0] n) 2)).ownsRow w.heap.size 2 1 (.slice (some ⟨w.heap.size, 0, none⟩) n n) n ((List.replicate n 0).map (Value.int .i64)) := by
    refine ⟨by simp, .inr ⟨w.heap.size, n, madeCells #[.int .i64 0] n, rfl, by omega, allocNew _ _, Nat.le_refl _, by unfold maxLen; omega, by simp [madeCells], ?_⟩⟩
    rw [Nat.mul_one]
    apply List.ext_getElem
    · simp [madeCells]
    · intro i h1 h2; simp [madeCells, Nat.mod_one]
  obtain ⟨a, c, e, hf⟩ := Ft.mk' (zs := List.replicate n 0) (by simp) hr (fun k hk => by simp [nth, hk]) hown
  cases e
  exact hf

/-- A row that is being filled: its first k are f's; below it nothing has changed. -/
structure Rw (W V : World) (n k : Nat) (f : Nat → Int) : Prop where
  bel : Below W.heap.size W V
  row : ∃ zs, Ft 2 V W.heap.size (some ⟨W.heap.size, 0, none⟩) n n zs ∧ ∀ j, j < k → nth zs j = f j
theorem Rw.start (W : World) (n : Nat) (f : Nat → Int) (hr : n * 8 ≤ 140737488351232) : Rw W (W.alloc (.cells (madeCells #[.int .i64 0] n) 2)) n 0 f :=
  ⟨box_below W _, _, made_ft W n hr, fun j hj => by omega⟩
theorem Rw.below {W V V' : World} {n k : Nat} {f : Nat → Int} (h : Rw W V n k f) (b : Below V.heap.size V V') : Rw W V' n k f := by
  obtain ⟨zs, hf, hz⟩ := h.row
  exact ⟨h.bel.trans (b.mono h.bel.size), zs, hf.below b (Nat.le_refl _), hz⟩
theorem Rw.drewN {W V : World} {n k : Nat} {f : Nat → Int} (h : Rw W V n k f) (m : Nat) : Rw W (V.drewN m) n k f := h.below (below_drewN (Below.refl _ _) m)
theorem Rw.slot {W V : World} {n k : Nat} {f : Nat → Int} (h : Rw W V n k f) (j : Nat) (hj : j < n) : ∃ u, V.cell? ⟨W.heap.size, j, none⟩ = some u ∧ V.frozen? ⟨W.heap.size, j, none⟩ = false := by
  obtain ⟨zs, hf, hz⟩ := h.row
  obtain ⟨b, off, e, hb, hc⟩ := hf.rd.cells (by omega)
  cases e
  have c := hc j hj
  rw [Nat.zero_add] at c
  rcases hf.own.2 with ⟨e1, h0⟩ | ⟨g, c, cur, e1, hB2, hg, r⟩
  · cases e1
  · cases e1
    exact ⟨_, c, frozen_of_row V W.heap.size j _ _ hg⟩
theorem Rw.set {W V : World} {n k : Nat} {f : Nat → Int} (h : Rw W V n k f) (hk : k < n) (h1 : -9223372036854775808 ≤ f k) (h2 : f k ≤ 9223372036854775807) : Rw W (V.setCell ⟨W.heap.size, k, none⟩ (.int .i64 (f k))) n (k + 1) f := by
  obtain ⟨zs, hf, hz⟩ := h.row
  refine ⟨h.bel.setCell (p := ⟨W.heap.size, k, none⟩) (Nat.le_refl _) _, _, hf.set k hk (f k) h1 h2, fun j hj => ?_⟩
  rw [nth_set' (by rw [hf.rd.len]; exact hk)]
  split
  · rename_i e; rw [e]
  · exact hz j (by omega)
theorem Rw.all {W V : World} {n : Nat} {f : Nat → Int} (h : Rw W V n n f) (ys : List Int) (hl : ys.length = n) (hy : ∀ j, j < n → nth ys j = f j) : Ft 2 V W.heap.size (some ⟨W.heap.size, 0, none⟩) n n ys := by
  obtain ⟨zs, hf, hz⟩ := h.row
  have e : zs = ys := ext_nth (by rw [hf.rd.len, hl]) (fun k hk => by rw [hf.rd.len] at hk; rw [hz k hk, hy k hk])
  rw [← e]; exact hf

/-- The first error of a list. -/
def fe : List Int → Int
  | [] => 0
  | e :: r => if e = 0 then fe r else e
theorem fe_none : ∀ (l : List Int), (∀ j, j < l.length → nth l j = 0) → fe l = 0
  | [], _ => rfl
  | e :: r, h => by
    have h0 : e = 0 := h 0 (by simp)
    unfold fe
    rw [if_pos h0]
    exact fe_none r (fun j hj => h (j + 1) (by simp; omega))
theorem fe_at : ∀ (l : List Int) (k : Nat), k < l.length → (∀ j, j < k → nth l j = 0) → nth l k ≠ 0 → fe l = nth l k
  | [], k, hk, _, _ => by simp at hk
  | e :: r, 0, hk, _, h => by
    have h0 : e ≠ 0 := h
    unfold fe
    rw [if_neg h0]; rfl
  | e :: r, k + 1, hk, hz, h => by
    have h0 : e = 0 := hz 0 (by omega)
    unfold fe
    rw [if_pos h0]
    exact fe_at r k (by simpa using hk) (fun j hj => hz (j + 1) (by omega)) h
theorem nth_maps {l : List Int} {f : Int → Int} {j : Nat} (h : j < l.length) : nth (l.map f) j = f (nth l j) := by
  rw [nth_lt (by simpa using h), nth_lt h]; simp

/-- A list where there is no error. -/
def onOk (e : Int) (l : List Int) : List Int := if e = 0 then l else []
theorem onOk_ok {e : Int} (h : e = 0) (l : List Int) : onOk e l = l := if_pos h
theorem onOk_no {e : Int} (h : e ≠ 0) (l : List Int) : onOk e l = [] := if_neg h

/-- What Monad answers: the error, the shape, the atoms. -/
def moE (op : Int) (sh at' : List Int) : Int := if mayA sh at' ≠ 0 then 1 else if lck (Nm.mE op 0) = true then Nm.mE op 0 else fe (at'.map (Nm.mE op))
def moS (op : Int) (sh at' : List Int) : List Int := onOk (moE op sh at') sh
def moA (op : Int) (sh at' : List Int) : List Int := onOk (moE op sh at') (at'.map (Nm.mN op))

set_option maxHeartbeats 1000000 in
theorem monad_bad (op : Int) (so ao : Option Addr) (sn sc an ac : Nat) (sh at' : List Int) (w : World) (h : Rd w so sn sh) (g : Rd w ao an at') (h0 : mayA sh at' ≠ 0) :
    Calls Tryz.prog 66 #[.int .i64 op, .agg #[.slice so sn sc, .slice ao an ac]] w fun e w' => e = .returned (.tuple #[.agg #[.slice none 0 0, .slice none 0 0], .int .i64 1]) ∧ Below w.heap.size w w' := by
  have I0 := it_start w so sn sc ao an ac sh at' h g
  have hm := mayA_any so ao sn sc an ac sh at' _ I0.s I0.a
  have h0' : (mayA sh at' != 0) = true := by simpa using h0
  clear h0
  go_enter Tryz.func66, Tryz.ntmps66
  go_wp2_with (go_at_call 13; refine hm.mono ?_; rintro e w1 ⟨rfl, h1⟩; have I1 := I0.below h1; obtain ⟨c0, c1, z0, z1⟩ := box2 I1.r)
  (try simp only [Exit.inBlock, Exit.then])
  refine bodyPost_ret (v := .tuple #[.agg #[.slice none 0 0, .slice none 0 0], .int .i64 1]) (by rw [results_cell_tmp rfl]; go_simp) rfl ?_
  exact ⟨rfl, below_set2 _ _ _ _ I1.bel (by omega) (Nat.le_refl _)⟩

set_option maxHeartbeats 1000000 in
theorem monad_lack (op : Int) (so ao : Option Addr) (sn sc an ac : Nat) (sh at' : List Int) (w : World) (h : Rd w so sn sh) (g : Rd w ao an at') (h0 : mayA sh at' = 0) (hk : lck (Nm.mE op 0) = true) :
    Calls Tryz.prog 66 #[.int .i64 op, .agg #[.slice so sn sc, .slice ao an ac]] w fun e w' => e = .returned (.tuple #[.agg #[.slice none 0 0, .slice none 0 0], .int .i64 (Nm.mE op 0)]) ∧ Below w.heap.size w w' := by
  have I0 := it_start w so sn sc ao an ac sh at' h g
  have hm := mayA_any so ao sn sc an ac sh at' _ I0.s I0.a
  rw [h0] at hm
  have hmo := fun W => monadOf_no op W hk
  have hne : (Nm.mE op 0 != 0) = true := by simpa using lck_ne hk
  clear h0 hk
  generalize Nm.mE op 0 = E at *
  go_enter Tryz.func66, Tryz.ntmps66
  go_wp2_with (first
    | (go_at_call 13; refine hm.mono ?_; rintro e w1 ⟨rfl, h1⟩; have I1 := I0.below h1)
    | (go_at_call 81; refine (hmo _).mono ?_; rintro e w2 ⟨rfl, h2⟩; have I2 := I1.below h2; obtain ⟨c0, c1, z0, z1⟩ := box2 I2.r))
  (try simp only [Exit.inBlock, Exit.then])
  refine bodyPost_ret (v := .tuple #[.agg #[.slice none 0 0, .slice none 0 0], .int .i64 E]) (by rw [results_cell_tmp rfl]; go_simp) rfl ?_
  exact ⟨rfl, below_set2 _ _ _ _ I2.bel (by omega) (Nat.le_refl _)⟩

set_option maxHeartbeats 4000000 in
set_option maxRecDepth 20000 in
theorem monad_go (op : Int) (so ao : Option Addr) (sn sc an ac : Nat) (sh at' : List Int) (w : World) (h : Rd w so sn sh) (g : Rd w ao an at') (h0 : mayA sh at' = 0) (hk : lck (Nm.mE op 0) = false) :
    Calls Tryz.prog 66 #[.int .i64 op, .agg #[.slice so sn sc, .slice ao an ac]] w fun e w' => ∃ o1 n1 c1 o2 n2 c2, e = .returned (.tuple #[.agg #[.slice o1 n1 c1, .slice o2 n2 c2], .int .i64 (fe (at'.map (Nm.mE op)))]) ∧ Ft 3 w' w.heap.size o1 n1 c1 (onOk (fe (at'.map (Nm.mE op))) sh) ∧ Ft 2 w' w.heap.size o2 n2 c2 (onOk (fe (at'.map (Nm.mE op))) (at'.map (Nm.mN op))) ∧ Below w.heap.size w w' := by
  have I0 := it_start w so sn sc ao an ac sh at' h g
  have hm := mayA_any so ao sn sc an ac sh at' _ I0.s I0.a
  rw [h0] at hm
  have hmo := fun W => monadOf_ok op W hk
  dsimp only [mFn] at hmo
  have groom := g.room
  have gl : Hid (at'.length = an) := g.len
  have hmk := run_make_row' (P := Tryz.prog) 34 2 (.int .i64 0) 8 Tryz.underlying34 infoL3 rfl .i64 .i64 an (by omega) (by omega)
  have hnum : Hid (∀ k, k < an → Nm.inr (nth at' k) = true) := fun k hk => by rw [Nm.inr_iff]; exact g.num k hk
  clear h0 hk
  go_enter Tryz.func66, Tryz.ntmps66
  go_wp2_with (first
    | (go_at_call 13; refine hm.mono ?_; rintro e W1 ⟨rfl, h1⟩; have I1 := I0.below h1)
    | (go_at_call 81; refine (hmo _).mono ?_; rintro e W2 ⟨rfl, hg, h2⟩; have I2 := I1.below h2; have I2' := I2; obtain ⟨q0, q1, _, _, _, _⟩ := I2'; have R0 := Rw.start W2 an (fun j => Nm.mN op (nth at' j)) groom; have I3 := I2.below R0.bel; obtain ⟨r0, r1, _, _, _, _⟩ := I3))
  have s1 := h1.size
  have s2 := h2.size
  have lw : w.heap.size + 1 < W2.heap.size := (Array.getElem?_eq_some_iff.1 I2.r).1
  have lg : W1.heap.size < W2.heap.size := World.block_lt_of_cell? W2 _ hg
  clear hmk hm hmo I0 q0 q1 r0 r1
  go_loopw [31] (fun i V => ∃ k : Nat, k ≤ an ∧ i = .int .i64 (k : Nat) ∧ (∀ j, j < k → Nm.mE op (nth at' j) = 0) ∧ Rw W2 V an k (fun j => Nm.mN op (nth at' j))) (fun i _ => an - (intOf i).toNat)
  case atStart => exact ⟨0, Nat.zero_le _, rfl, fun j hj => by omega, R0⟩
  case round =>
    obtain ⟨k, hk, rfl, hE, L0⟩ := hrel
    have HE : Hid (∀ j, j < k → Nm.mE op (nth at' j) = 0) := hE
    clear hE R0
    by_cases hlt : k < an
    · obtain ⟨b, off, rfl, hb, hcs⟩ := (I2.a.below L0.bel (Nat.le_refl _)).cells (by omega)
      have c1 := hcs k hlt
      have hgV := (L0.bel.cell (p := ⟨W1.heap.size, 0, none⟩) lg).trans hg
      have hf := mFn_any W1.heap.size op (nth at' k) wr hgV (hnum.out k hlt)
      have bd := Nm.inr_iff.1 (Nm.inr_mN op (nth at' k) (hnum.out k hlt))
      clear hcs hgV
      by_cases he : Nm.mE op (nth at' k) = 0
      · have HE2 : Hid (Nm.mE op (nth at' k) = 0) := he
        rw [he] at hf
        clear he
        go_wp2_with (go_at_call 92; refine hf.mono ?_; rintro e W3 ⟨rfl, n, hW3⟩; have L3 := L0.drewN n; rw [← hW3] at L3; clear hW3; obtain ⟨u, x0, x1⟩ := L3.slot k hlt)
        go_roundw
        case rel => exact ⟨k + 1, by omega, by go_num, fun j hj => (by rcases Nat.lt_succ_iff_lt_or_eq.1 hj with h | h; exact HE.out j h; rw [h]; exact HE2.out), L3.set hlt bd.1 bd.2⟩
        case measure => simp [intOf]; omega
      · have HE2 : Hid (Nm.mE op (nth at' k) ≠ 0) := he
        have he' : (Nm.mE op (nth at' k) != 0) = true := by simpa using he
        have hfe : Hid (fe (at'.map (Nm.mE op)) = Nm.mE op (nth at' k)) := by
          show _ = _
          rw [fe_at _ k (by rw [List.length_map, gl.out]; exact hlt) (fun j hj => by rw [nth_maps (by rw [gl.out]; omega)]; exact HE.out j hj) (by rw [nth_maps (by rw [gl.out]; exact hlt)]; exact he), nth_maps (by rw [gl.out]; exact hlt)]
        clear he
        go_wp2_with (go_at_call 92; refine hf.mono ?_; rintro e W3 ⟨rfl, n, hW3⟩; have L3 := L0.drewN n; rw [← hW3] at L3; clear hW3; obtain ⟨u, x0, x1⟩ := L3.slot k hlt; have L4 := L3.set hlt bd.1 bd.2; have I4 := I2.below L4.bel; obtain ⟨y0, y1, y2, y3⟩ := box2 I4.r)
        (try simp only [Exit.inBlock, Exit.then])
        refine bodyPost_ret (v := .tuple #[.agg #[.slice none 0 0, .slice none 0 0], .int .i64 (Nm.mE op (nth at' k))]) (by rw [results_cell_tmp rfl]; go_simp) rfl ?_
        rw [hfe.out, onOk_no HE2.out, onOk_no HE2.out]
        exact ⟨none, 0, 0, none, 0, 0, rfl, Ft.nil _ _ _, Ft.nil _ _ _, below_set2 _ _ _ _ I4.bel (by omega) (Nat.le_refl _)⟩
    · obtain rfl : k = an := by omega
      have t1 : decide ((k : Int) < (k : Int)) = false := by simp
      have hfe : Hid (fe (at'.map (Nm.mE op)) = 0) := fe_none _ (fun j hj => by rw [List.length_map, gl.out] at hj; rw [nth_maps (by rw [gl.out]; exact hj)]; exact HE.out j hj)
      have I4 := I2.below L0.bel
      have I4' := I4
      obtain ⟨q0, q1, _, _, _, _⟩ := I4'
      have rs := I4.s
      go_wp2_with (at_builtin; refine wpList_copy rfl _ _ rfl _ _ _ _ rfl rfl rs ?_; intro o3 c3 W3 f3 h3; have I5 := I4.below h3; obtain ⟨y0, y1, y2, y3⟩ := box2 I5.r)
      (try simp only [Exit.inBlock, Exit.then])
      refine bodyPost_ret (v := .tuple #[.agg #[.slice o3 sn c3, .slice (some ⟨W2.heap.size, 0, none⟩) k k], .int .i64 0]) (by rw [results_cell_tmp rfl]; go_simp) rfl ?_
      rw [hfe.out, onOk_ok rfl, onOk_ok rfl]
      have sz := L0.bel.size
      have F := (L0.all (at'.map (Nm.mN op)) (by rw [List.length_map, gl.out]) (fun j hj => nth_maps (by rw [gl.out]; exact hj))).below h3 (Nat.le_refl _)
      have G := Fr.ft f3
      refine ⟨_, _, _, _, _, _, rfl, (G.keep1 (set2 _ _ _ _ _ _) (fun b off e => ?_)).mono (by omega), (F.keep1 (set2 _ _ _ _ _ _) (fun b off e => ?_)).mono (by omega), below_set2 _ _ _ _ I5.bel (by omega) (Nat.le_refl _)⟩
      · intro e'; have := (G.at b off e).1; cases e'; omega
      · intro e'; cases e; simp only [Option.some.injEq] at e'; omega

theorem monad_any (op : Int) (so ao : Option Addr) (sn sc an ac : Nat) (sh at' : List Int) (w : World) (h : Rd w so sn sh) (g : Rd w ao an at') :
    Calls Tryz.prog 66 #[.int .i64 op, .agg #[.slice so sn sc, .slice ao an ac]] w fun e w' => ∃ o1 n1 c1 o2 n2 c2, e = .returned (.tuple #[.agg #[.slice o1 n1 c1, .slice o2 n2 c2], .int .i64 (moE op sh at')]) ∧ Ft 3 w' w.heap.size o1 n1 c1 (moS op sh at') ∧ Ft 2 w' w.heap.size o2 n2 c2 (moA op sh at') ∧ Below w.heap.size w w' := by
  by_cases h0 : mayA sh at' = 0
  · cases hk : lck (Nm.mE op 0)
    · have e1 : moE op sh at' = fe (at'.map (Nm.mE op)) := by unfold moE; rw [if_neg (by omega), if_neg (by rw [hk]; decide)]
      unfold moS moA
      rw [e1]
      exact monad_go op so ao sn sc an ac sh at' w h g h0 hk
    · have e1 : moE op sh at' = Nm.mE op 0 := by unfold moE; rw [if_neg (by omega), if_pos hk]
      unfold moS moA
      rw [e1, onOk_no (lck_ne hk), onOk_no (lck_ne hk)]
      exact (monad_lack op so ao sn sc an ac sh at' w h g h0 hk).mono fun e w' ⟨h1, h2⟩ => ⟨none, 0, 0, none, 0, 0, h1, Ft.nil _ _ _, Ft.nil _ _ _, h2⟩
  · have e1 : moE op sh at' = 1 := by unfold moE; rw [if_pos h0]
    unfold moS moA
    rw [e1, onOk_no (by decide), onOk_no (by decide)]
    exact (monad_bad op so ao sn sc an ac sh at' w h g h0).mono fun e w' ⟨h1, h2⟩ => ⟨none, 0, 0, none, 0, 0, h1, Ft.nil _ _ _, Ft.nil _ _ _, h2⟩
end Go.Proofs.YtelcagfaflpolaaGreat




namespace Go.Proofs.YtelcagfaflpolaaGreat

open Go.RowKit

set_option linter.unusedVariables false

/-- Two arrays in their boxes, and a third box for the answer. -/
structure Dy (w W : World) (so : Option Addr) (sn sc : Nat) (ao : Option Addr) (an ac : Nat) (to : Option Addr) (tn tc : Nat) (bo : Option Addr) (bn bc : Nat) (sx ax sy ay : List Int) : Prop where
  c0 : W.cell? ⟨w.heap.size, 0, none⟩ = some (.slice so sn sc)
  c1 : W.cell? ⟨w.heap.size, 1, none⟩ = some (.slice ao an ac)
  d0 : W.cell? ⟨w.heap.size + 1, 0, none⟩ = some (.slice to tn tc)
  d1 : W.cell? ⟨w.heap.size + 1, 1, none⟩ = some (.slice bo bn bc)
  r : W.heap[w.heap.size + 1 + 1]? = some (.cells #[.slice none 0 0, .slice none 0 0] 36 (0, 0))
  s : Rd W so sn sx
  a : Rd W ao an ax
  t : Rd W to tn sy
  b : Rd W bo bn ay
  bel : Below w.heap.size w W
theorem Dy.below {w W W' : World} {so : Option Addr} {sn sc : Nat} {ao : Option Addr} {an ac : Nat} {to : Option Addr} {tn tc : Nat} {bo : Option Addr} {bn bc : Nat} {sx ax sy ay : List Int} {B : Nat} (h : Dy w W so sn sc ao an ac to tn tc bo bn bc sx ax sy ay) (k : Below B W W') (hB : W.heap.size ≤ B) : Dy w W' so sn sc ao an ac to tn tc bo bn bc sx ax sy ay := by
  have l0 := World.block_lt_of_cell? W _ h.c0
  have l1 := World.block_lt_of_cell? W _ h.d0
  have l2 := (Array.getElem?_eq_some_iff.1 h.r).1
  exact ⟨(k.cell (p := ⟨w.heap.size, 0, none⟩) (Nat.lt_of_lt_of_le l0 hB)).trans h.c0, (k.cell (p := ⟨w.heap.size, 1, none⟩) (Nat.lt_of_lt_of_le l0 hB)).trans h.c1, (k.cell (p := ⟨w.heap.size + 1, 0, none⟩) (Nat.lt_of_lt_of_le l1 hB)).trans h.d0, (k.cell (p := ⟨w.heap.size + 1, 1, none⟩) (Nat.lt_of_lt_of_le l1 hB)).trans h.d1, (k.block _ (Nat.lt_of_lt_of_le l2 hB)).trans h.r,
    h.s.below k hB, h.a.below k hB, h.t.below k hB, h.b.below k hB, h.bel.trans (k.mono (Nat.le_trans h.bel.size hB))⟩
theorem dy_start (w : World) (so : Option Addr) (sn sc : Nat) (ao : Option Addr) (an ac : Nat) (to : Option Addr) (tn tc : Nat) (bo : Option Addr) (bn bc : Nat) (sx ax sy ay : List Int) (h1 : Rd w so sn sx) (h2 : Rd w ao an ax) (h3 : Rd w to tn sy) (h4 : Rd w bo bn ay) :
    Dy w (((w.alloc (.cells #[.slice so sn sc, .slice ao an ac] 36)).alloc (.cells #[.slice to tn tc, .slice bo bn bc] 36)).alloc (.cells #[.slice none 0 0, .slice none 0 0] 36)) so sn sc ao an ac to tn tc bo bn bc sx ax sy ay := by
  have t := two_boxes w so ao to bo sn sc an ac tn tc bn bc
  have b1 := allocNew ((w.alloc (.cells #[.slice so sn sc, .slice ao an ac] 36)).alloc (.cells #[.slice to tn tc, .slice bo bn bc] 36)) (.cells #[.slice none 0 0, .slice none 0 0] 36)
  have k := box_below ((w.alloc (.cells #[.slice so sn sc, .slice ao an ac] 36)).alloc (.cells #[.slice to tn tc, .slice bo bn bc] 36)) (.cells #[.slice none 0 0, .slice none 0 0] 36)
  have u := t.below k
  rw [World.size_alloc, World.size_alloc] at b1
  exact ⟨u.s0, u.a0, u.s1, u.a1, b1, h1.below u.bel (Nat.le_refl _), h2.below u.bel (Nat.le_refl _), h3.below u.bel (Nat.le_refl _), h4.below u.bel (Nat.le_refl _), u.bel⟩

/-- How many atoms there are, and how many places of the longer shape lie below one of each side. -/
def dyN (sx sy : List Int) : Nat := (pr (agrL sx sy)).toNat
def dyB (sx sy s : List Int) : Nat := (pr ((agrL sx sy).drop s.length)).toNat
def dyF (op : Int) (sx ax sy ay : List Int) (i : Nat) : Int := Nm.dN op (nth ax (i / dyB sx sy sx)) (nth ay (i / dyB sx sy sy))
def dyG (op : Int) (sx ax sy ay : List Int) (i : Nat) : Int := Nm.dE op (nth ax (i / dyB sx sy sx)) (nth ay (i / dyB sx sy sy))
def dyL (op : Int) (sx ax sy ay : List Int) : List Int := (List.range (dyN sx sy)).map (dyF op sx ax sy ay)
def dyR (op : Int) (sx ax sy ay : List Int) : List Int := (List.range (dyN sx sy)).map (dyG op sx ax sy ay)
theorem nth_range {n j : Nat} {f : Nat → Int} (h : j < n) : nth ((List.range n).map f) j = f j := by
  rw [nth_lt (by simpa using h)]; simp
/-- What Dyad answers: the error, the shape, the atoms. -/
def ddE (op : Int) (sx ax sy ay : List Int) : Int := if mayA sx ax ≠ 0 ∨ mayA sy ay ≠ 0 then 1 else if lck (Nm.dE op 0 0) = true then Nm.dE op 0 0 else if agrB sx sy = true then fe (dyR op sx ax sy ay) else 11
def ddS (op : Int) (sx ax sy ay : List Int) : List Int := onOk (ddE op sx ax sy ay) (agrL sx sy)
def ddA (op : Int) (sx ax sy ay : List Int) : List Int := onOk (ddE op sx ax sy ay) (dyL op sx ax sy ay)

set_option maxHeartbeats 1000000 in
theorem dyad_bad (op : Int) (so ao to bo : Option Addr) (sn sc an ac tn tc bn bc : Nat) (sx ax sy ay : List Int) (w : World) (h1 : Rd w so sn sx) (h2 : Rd w ao an ax) (h3 : Rd w to tn sy) (h4 : Rd w bo bn ay) (h0 : mayA sx ax ≠ 0 ∨ mayA sy ay ≠ 0) :
    Calls Tryz.prog 67 #[.int .i64 op, .agg #[.slice so sn sc, .slice ao an ac], .agg #[.slice to tn tc, .slice bo bn bc]] w fun e w' => e = .returned (.tuple #[.agg #[.slice none 0 0, .slice none 0 0], .int .i64 1]) ∧ Below w.heap.size w w' := by
  have I0 := dy_start w so sn sc ao an ac to tn tc bo bn bc sx ax sy ay h1 h2 h3 h4
  have hm := mayA_any so ao sn sc an ac sx ax _ I0.s I0.a
  by_cases c : mayA sx ax = 0
  · have hm2 := fun W (x : Rd W to tn sy) (y : Rd W bo bn ay) => mayA_any to bo tn tc bn bc sy ay W x y
    have c2 : (mayA sy ay != 0) = true := by rcases h0 with h | h; exact absurd c h; simpa using h
    rw [c] at hm
    clear h0 c
    go_enter Tryz.func67, Tryz.ntmps67
    go_wp2_with (first
      | (go_at_call 13; (with_reducible refine hm.mono ?_); rintro e w1 ⟨rfl, k1⟩; have I1 := I0.below k1 (Nat.le_refl _); have I1' := I1; obtain ⟨p0, p1, p2, p3, _, _, _, _, _, _⟩ := I1')
      | (go_at_call 13; (with_reducible refine (hm2 _ I1.t I1.b).mono ?_); rintro e w2 ⟨rfl, k2⟩; have I2 := I1.below k2 (Nat.le_refl _); obtain ⟨c0, c1, z0, z1⟩ := box2 I2.r))
    (try simp only [Exit.inBlock, Exit.then])
    refine bodyPost_ret (v := .tuple #[.agg #[.slice none 0 0, .slice none 0 0], .int .i64 1]) (by rw [results_cell_tmp rfl]; go_simp) rfl ?_
    exact ⟨rfl, below_set2 _ _ _ _ I2.bel (by omega) (Nat.le_refl _)⟩
  · have c2 : (mayA sx ax != 0) = true := by simpa using c
    clear h0 c
    go_enter Tryz.func67, Tryz.ntmps67
    go_wp2_with (go_at_call 13; (with_reducible refine hm.mono ?_); rintro e w1 ⟨rfl, k1⟩; have I1 := I0.below k1 (Nat.le_refl _); obtain ⟨c0, c1, z0, z1⟩ := box2 I1.r)
    (try simp only [Exit.inBlock, Exit.then])
    refine bodyPost_ret (v := .tuple #[.agg #[.slice none 0 0, .slice none 0 0], .int .i64 1]) (by rw [results_cell_tmp rfl]; go_simp) rfl ?_
    exact ⟨rfl, below_set2 _ _ _ _ I1.bel (by omega) (Nat.le_refl _)⟩

set_option maxHeartbeats 1000000 in
theorem dyad_lack (op : Int) (so ao to bo : Option Addr) (sn sc an ac tn tc bn bc : Nat) (sx ax sy ay : List Int) (w : World) (h1 : Rd w so sn sx) (h2 : Rd w ao an ax) (h3 : Rd w to tn sy) (h4 : Rd w bo bn ay) (h0 : mayA sx ax = 0) (h0' : mayA sy ay = 0) (hk : lck (Nm.dE op 0 0) = true) :
    Calls Tryz.prog 67 #[.int .i64 op, .agg #[.slice so sn sc, .slice ao an ac], .agg #[.slice to tn tc, .slice bo bn bc]] w fun e w' => e = .returned (.tuple #[.agg #[.slice none 0 0, .slice none 0 0], .int .i64 (Nm.dE op 0 0)]) ∧ Below w.heap.size w w' := by
  have I0 := dy_start w so sn sc ao an ac to tn tc bo bn bc sx ax sy ay h1 h2 h3 h4
  have hm := mayA_any so ao sn sc an ac sx ax _ I0.s I0.a
  have hm2 := fun W (x : Rd W to tn sy) (y : Rd W bo bn ay) => mayA_any to bo tn tc bn bc sy ay W x y
  rw [h0] at hm
  rw [h0'] at hm2
  have hmo := fun W => dyadOf_no op W hk
  have hne : (Nm.dE op 0 0 != 0) = true := by simpa using lck_ne hk
  clear h0 hk h0'
  generalize Nm.dE op 0 0 = E at *
  go_enter Tryz.func67, Tryz.ntmps67
  go_wp2_with (first
    | (go_at_call 13; (with_reducible refine hm.mono ?_); rintro e w1 ⟨rfl, k1⟩; have I1 := I0.below k1 (Nat.le_refl _); have I1' := I1; obtain ⟨p0, p1, p2, p3, _, _, _, _, _, _⟩ := I1')
    | (go_at_call 13; (with_reducible refine (hm2 _ I1.t I1.b).mono ?_); rintro e w2 ⟨rfl, k2⟩; have I2 := I1.below k2 (Nat.le_refl _))
    | (go_at_call 82; refine (hmo _).mono ?_; rintro e w3 ⟨rfl, k3⟩; have I3 := I2.below k3 (Nat.le_refl _); obtain ⟨c0, c1, z0, z1⟩ := box2 I3.r))
  (try simp only [Exit.inBlock, Exit.then])
  refine bodyPost_ret (v := .tuple #[.agg #[.slice none 0 0, .slice none 0 0], .int .i64 E]) (by rw [results_cell_tmp rfl]; go_simp) rfl ?_
  exact ⟨rfl, below_set2 _ _ _ _ I3.bel (by omega) (Nat.le_refl _)⟩

set_option maxHeartbeats 2000000 in
theorem dyad_len (op : Int) (so ao to bo : Option Addr) (sn sc an ac tn tc bn bc : Nat) (sx ax sy ay : List Int) (w : World) (h1 : Rd w so sn sx) (h2 : Rd w ao an ax) (h3 : Rd w to tn sy) (h4 : Rd w bo bn ay) (hs : Sl so sn sc) (ht : Sl to tn tc) (h0 : mayA sx ax = 0) (h0' : mayA sy ay = 0) (hk : lck (Nm.dE op 0 0) = false) (ha : agrB sx sy = false) :
    Calls Tryz.prog 67 #[.int .i64 op, .agg #[.slice so sn sc, .slice ao an ac], .agg #[.slice to tn tc, .slice bo bn bc]] w fun e w' => e = .returned (.tuple #[.agg #[.slice none 0 0, .slice none 0 0], .int .i64 11]) ∧ Below w.heap.size w w' := by
  have I0 := dy_start w so sn sc ao an ac to tn tc bo bn bc sx ax sy ay h1 h2 h3 h4
  have hm := mayA_any so ao sn sc an ac sx ax _ I0.s I0.a
  have hm2 := fun W (x : Rd W to tn sy) (y : Rd W bo bn ay) => mayA_any to bo tn tc bn bc sy ay W x y
  rw [h0] at hm
  rw [h0'] at hm2
  have hmo := fun W => dyadOf_ok op W hk
  dsimp only [dFn] at hmo
  have hag := fun W (x : Rd W so sn sx) (y : Rd W to tn sy) => agree_any so to sn tn sc tc sx sy W x y hs ht
  rw [show agrE sx sy = 11 by unfold agrE; rw [if_neg (by rw [ha]; decide)]] at hag
  clear h0 hk h0' ha
  go_enter Tryz.func67, Tryz.ntmps67
  go_wp2_with (first
    | (go_at_call 13; (with_reducible refine hm.mono ?_); rintro e w1 ⟨rfl, k1⟩; have I1 := I0.below k1 (Nat.le_refl _); have I1' := I1; obtain ⟨p0, p1, p2, p3, _, _, _, _, _, _⟩ := I1')
    | (go_at_call 13; (with_reducible refine (hm2 _ I1.t I1.b).mono ?_); rintro e w2 ⟨rfl, k2⟩; have I2 := I1.below k2 (Nat.le_refl _))
    | (go_at_call 82; refine (hmo _).mono ?_; rintro e w3 ⟨rfl, hg, k3⟩; have I3 := I2.below k3 (Nat.le_refl _); have I3' := I3; obtain ⟨q0, q1, q2, q3, _, _, _, _, _, _⟩ := I3')
    | (go_at_call 45; refine (hag _ I3.s I3.t).mono ?_; rintro e w4 ⟨lo, ln, lc, rfl, fl, k4⟩; have I4 := I3.below k4 (Nat.le_refl _); obtain ⟨c0, c1, z0, z1⟩ := box2 I4.r))
  (try simp only [Exit.inBlock, Exit.then])
  refine bodyPost_ret (v := .tuple #[.agg #[.slice none 0 0, .slice none 0 0], .int .i64 11]) (by rw [results_cell_tmp rfl]; go_simp) rfl ?_
  exact ⟨rfl, below_set2 _ _ _ _ I4.bel (by omega) (Nat.le_refl _)⟩
end Go.Proofs.YtelcagfaflpolaaGreat



namespace Go.Proofs.YtelcagfaflpolaaGreat

open Go.RowKit Go.Deep

set_option linter.unusedVariables false

theorem Rw.less {W V : World} {n k : Nat} {f : Nat → Int} (h : Rw W V n (k + 1) f) : Rw W V n k f := by
  obtain ⟨zs, hf, hz⟩ := h.row
  exact ⟨h.bel, zs, hf, fun j hj => hz j (by omega)⟩

/-- The reckoning of Dyad: how many atoms, and which go together. -/
theorem dy_facts {sx ax sy ay : List Int} (h0 : mayA sx ax = 0) (h0' : mayA sy ay = 0) (ha : agrB sx sy = true) :
    sx.length ≤ (agrL sx sy).length ∧ sy.length ≤ (agrL sx sy).length ∧ sizeF ((agrL sx sy).drop sx.length) = (dyB sx sy sx : Nat) ∧ sizeF ((agrL sx sy).drop sy.length) = (dyB sx sy sy : Nat) ∧
    ax.length * dyB sx sy sx = dyN sx sy ∧ ay.length * dyB sx sy sy = dyN sx sy ∧ dyN sx sy ≤ 4096 ∧ dyB sx sy sx ≤ 4096 ∧ dyB sx sy sy ≤ 4096 ∧ mayF (agrL sx sy) = 0 := by
  obtain ⟨m1, l1⟩ := mayA_zero h0
  obtain ⟨m2, l2⟩ := mayA_zero h0'
  obtain ⟨t1, t2, t3⟩ := agr_true ha
  have mL : mayF (agrL sx sy) = 0 := by unfold agrL; rw [if_pos ha]; split <;> assumption
  have dx := mayF_drop mL sx.length
  have dy := mayF_drop mL sy.length
  have bL := prF_bd mL
  have bx := prF_bd dx
  have b_y := prF_bd dy
  have px : pr sx * pr ((agrL sx sy).drop sx.length) = pr (agrL sx sy) := by
    conv => lhs; arg 1; rw [← t1]
    rw [← pr_app, List.take_append_drop]
  have py : pr sy * pr ((agrL sx sy).drop sy.length) = pr (agrL sx sy) := by
    conv => lhs; arg 1; rw [← t2]
    rw [← pr_app, List.take_append_drop]
  have e1 : ((dyB sx sy sx : Nat) : Int) = pr ((agrL sx sy).drop sx.length) := by unfold dyB; omega
  have e2 : ((dyB sx sy sy : Nat) : Int) = pr ((agrL sx sy).drop sy.length) := by unfold dyB; omega
  have e3 : ((dyN sx sy : Nat) : Int) = pr (agrL sx sy) := by unfold dyN; omega
  refine ⟨by rw [t3]; exact Nat.le_max_left _ _, by rw [t3]; exact Nat.le_max_right _ _, by rw [sizeF_ok dx, e1], by rw [sizeF_ok dy, e2], ?_, ?_, by omega, by omega, by omega, mL⟩
  · have : ((ax.length * dyB sx sy sx : Nat) : Int) = (dyN sx sy : Nat) := by rw [Int.natCast_mul, e1, e3, l1, px]
    exact_mod_cast this
  · have : ((ay.length * dyB sx sy sy : Nat) : Int) = (dyN sx sy : Nat) := by rw [Int.natCast_mul, e2, e3, l2, py]
    exact_mod_cast this

set_option maxHeartbeats 8000000 in
set_option maxRecDepth 20000 in
theorem dyad_go (op : Int) (so ao to bo : Option Addr) (sn sc an ac tn tc bn bc : Nat) (sx ax sy ay : List Int) (w : World) (h1 : Rd w so sn sx) (h2 : Rd w ao an ax) (h3 : Rd w to tn sy) (h4 : Rd w bo bn ay) (hs : Sl so sn sc) (ht : Sl to tn tc) (h0 : mayA sx ax = 0) (h0' : mayA sy ay = 0) (hk : lck (Nm.dE op 0 0) = false) (ha : agrB sx sy = true) :
    Calls Tryz.prog 67 #[.int .i64 op, .agg #[.slice so sn sc, .slice ao an ac], .agg #[.slice to tn tc, .slice bo bn bc]] w fun e w' => ∃ o1 n1 c1 o2 n2 c2, e = .returned (.tuple #[.agg #[.slice o1 n1 c1, .slice o2 n2 c2], .int .i64 (fe (dyR op sx ax sy ay))]) ∧ Ft 3 w' w.heap.size o1 n1 c1 (onOk (fe (dyR op sx ax sy ay)) (agrL sx sy)) ∧ Ft 2 w' w.heap.size o2 n2 c2 (onOk (fe (dyR op sx ax sy ay)) (dyL op sx ax sy ay)) ∧ Below w.heap.size w w' := by
  have I0 := dy_start w so sn sc ao an ac to tn tc bo bn bc sx ax sy ay h1 h2 h3 h4
  have hm := mayA_any so ao sn sc an ac sx ax _ I0.s I0.a
  have hm2 := fun W (x : Rd W to tn sy) (y : Rd W bo bn ay) => mayA_any to bo tn tc bn bc sy ay W x y
  obtain ⟨f1, f2, f3, f4, f5, f6, f7, f8, f9, fM⟩ := dy_facts h0 h0' ha
  rw [h0] at hm
  rw [h0'] at hm2
  have hmo := fun W => dyadOf_ok op W hk
  dsimp only [dFn] at hmo
  have hag := fun W (x : Rd W so sn sx) (y : Rd W to tn sy) => agree_any so to sn tn sc tc sx sy W x y hs ht
  rw [show agrE sx sy = 0 by unfold agrE; rw [if_pos ha]] at hag
  rw [h1.len] at f1 f3
  rw [h3.len] at f2 f4
  rw [h2.len] at f5
  rw [h4.len] at f6
  have HF : Hid (∀ i, dyF op sx ax sy ay i = Nm.dN op (nth ax (i / dyB sx sy sx)) (nth ay (i / dyB sx sy sy))) := fun i => rfl
  have HG : Hid (∀ i, dyG op sx ax sy ay i = Nm.dE op (nth ax (i / dyB sx sy sx)) (nth ay (i / dyB sx sy sy))) := fun i => rfl
  have HR : Hid (dyR op sx ax sy ay = (List.range (dyN sx sy)).map (dyG op sx ax sy ay)) := rfl
  have HL : Hid (dyL op sx ax sy ay = (List.range (dyN sx sy)).map (dyF op sx ax sy ay)) := rfl
  generalize dyF op sx ax sy ay = F at *
  generalize dyG op sx ax sy ay = G at *
  generalize dyR op sx ax sy ay = R at *
  generalize dyL op sx ax sy ay = LL at *
  generalize agrL sx sy = L at *
  generalize dyB sx sy sx = X at *
  generalize dyB sx sy sy = Y at *
  generalize dyN sx sy = n at *
  have aroom := h2.room
  have broom := h4.room
  have hmk := run_make_row' (P := Tryz.prog) 34 2 (.int .i64 0) 8 Tryz.underlying34 infoL3 rfl .i64 .i64 n (by omega) (by omega)
  have hxn : Hid (∀ k, k < an → Nm.inr (nth ax k) = true) := fun k hk => by rw [Nm.inr_iff]; exact h2.num k hk
  have hyn : Hid (∀ k, k < bn → Nm.inr (nth ay k) = true) := fun k hk => by rw [Nm.inr_iff]; exact h4.num k hk
  have m1 : ((an : Int) * (X : Int)) = (n : Int) := by exact_mod_cast f5
  have w1 : IntKind.i64.wrap (n : Int) = (n : Int) := wrapIn _ (by omega)
  have F5 : Hid (an * X = n) := f5
  have F6 : Hid (bn * Y = n) := f6
  clear h0 hk h0' ha f5 f6 fM
  go_enter Tryz.func67, Tryz.ntmps67
  go_wp2_with (first
    | (go_at_call 13; (with_reducible refine hm.mono ?_); rintro e w1 ⟨rfl, k1⟩; have I1 := I0.below k1 (Nat.le_refl _); have I1' := I1; obtain ⟨p0, p1, p2, p3, _, _, _, _, _, _⟩ := I1')
    | (go_at_call 13; (with_reducible refine (hm2 _ I1.t I1.b).mono ?_); rintro e w2 ⟨rfl, k2⟩; have I2 := I1.below k2 (Nat.le_refl _))
    | (go_at_call 82; refine (hmo _).mono ?_; rintro e w3 ⟨rfl, hg, k3⟩; have I3 := I2.below k3 (Nat.le_refl _); have I3' := I3; obtain ⟨q0, q1, q2, q3, _, _, _, _, _, _⟩ := I3')
    | (go_at_call 45; refine (hag _ I3.s I3.t).mono ?_; rintro e w4 ⟨lo, ln, lc, rfl, fl, k4⟩; have I4 := I3.below k4 (Nat.le_refl _); have I4' := I4; obtain ⟨r0, r1, r2, r3, _, _, _, _, _, _⟩ := I4'))
  have ll := fl.rd.len
  rw [ll] at f1 f2
  have hbx := fun W (x : Rd W lo ln L) => below_any lo so ln lc sn sc L W x fl.sl f1
  have hby := fun W (x : Rd W lo ln L) => below_any lo to ln lc tn tc L W x fl.sl f2
  rw [f3] at hbx
  rw [f4] at hby
  have flr := fl.rd
  clear hm hm2 hmo hag I0 p0 p1 p2 p3 q0 q1 q2 q3 f3 f4
  go_quiet (first | (with_reducible exact Calls.quiet_of_same (hbx _ (flr.drewN _))) | (with_reducible exact Calls.quiet_of_same (hby _ (flr.drewN _))))
  have bdr := below_drewN (Below.refl w4.heap.size w4) nq
  have I5 := I4.below bdr (Nat.le_refl _)
  have fl5 := fl.below bdr (Nat.le_refl _)
  have lg : w2.heap.size < w3.heap.size := World.block_lt_of_cell? w3 _ hg
  have hg5 := (bdr.cell (p := ⟨w2.heap.size, 0, none⟩) (Nat.lt_of_lt_of_le lg k4.size)).trans ((k4.cell (p := ⟨w2.heap.size, 0, none⟩) lg).trans hg)
  have lg5 : w2.heap.size < (w4.drewN nq).heap.size := Nat.lt_of_lt_of_le (Nat.lt_of_lt_of_le lg k4.size) bdr.size
  have l34 := k4.size
  have l45 := bdr.size
  have l03 := I3.bel.size
  obtain ⟨W5, hW5⟩ : ∃ W5, w4.drewN nq = W5 := ⟨_, rfl⟩
  rw [hW5] at I5 fl5 hg5 lg5 l45 ⊢
  clear bdr hW5 hbx hby flr fl r0 r1 r2 r3
  have R0 := Rw.start W5 n F (by omega)
  have I5' := I5
  obtain ⟨p0, p1, p2, p3, _, _, _, _, _, _⟩ := I5'
  have l5 : w.heap.size + 1 + 1 < W5.heap.size := (Array.getElem?_eq_some_iff.1 I5.r).1
  go_wp2
  clear hmk p0 p1 p2 p3
  go_loopw [61] (fun i V => ∃ k : Nat, k ≤ n ∧ i = .int .i64 (k : Nat) ∧ (∀ j, j < k → G j = 0) ∧ Rw W5 V n k F) (fun i _ => n - (intOf i).toNat)
  case atStart => exact ⟨0, Nat.zero_le _, rfl, fun j hj => by omega, R0⟩
  case round =>
    obtain ⟨k, hk, rfl, hE, L0⟩ := hrel
    have HE : Hid (∀ j, j < k → G j = 0) := hE
    clear hE R0
    by_cases hlt : k < n
    · have X0 : 0 < X := Nat.pos_of_ne_zero (fun e => by have := F5.out; rw [e] at this; omega)
      have Y0 : 0 < Y := Nat.pos_of_ne_zero (fun e => by have := F6.out; rw [e] at this; omega)
      have hq1 : k / X < an := (Nat.div_lt_iff_lt_mul X0).2 (by rw [F5.out]; exact hlt)
      have hq2 : k / Y < bn := (Nat.div_lt_iff_lt_mul Y0).2 (by rw [F6.out]; exact hlt)
      have HFk : F k = Nm.dN op (nth ax (k / X)) (nth ay (k / Y)) := HF.out k
      have HGk : G k = Nm.dE op (nth ax (k / X)) (nth ay (k / Y)) := HG.out k
      have d1 : (k : Int) / (X : Int) = ((k / X : Nat) : Int) := (Int.natCast_ediv _ _).symm
      have d2 : (k : Int) / (Y : Int) = ((k / Y : Nat) : Int) := (Int.natCast_ediv _ _).symm
      have bx := Nm.inr_iff.1 (Nm.inr_dN op (nth ax (k / X)) (nth ay (k / Y)) (hxn.out _ hq1) (hyn.out _ hq2))
      obtain ⟨xb, xoff, rfl, hxb, hxc⟩ := I5.a.cells (Nat.lt_of_le_of_lt (Nat.zero_le _) hq1)
      obtain ⟨yb, yoff, rfl, hyb, hyc⟩ := I5.b.cells (Nat.lt_of_le_of_lt (Nat.zero_le _) hq2)
      have cx := hxc _ hq1
      have cy := hyc _ hq2
      have hfn : ∀ V, Rw W5 V n k F → Calls Tryz.prog 94 #[.int .i64 (nth ax (k / X)), .int .i64 (nth ay (k / Y)), .pointer (some ⟨w2.heap.size, 0, none⟩)] V fun e w' => e = .returned (.tuple #[.int .i64 (F k), .int .i64 (G k)]) ∧ ∃ m, w' = V.drewN m := by
        intro V r
        rw [HFk, HGk]
        exact dFn_any _ _ _ _ _ ((r.bel.cell (p := ⟨w2.heap.size, 0, none⟩) lg5).trans hg5) (hxn.out _ hq1) (hyn.out _ hq2)
      rw [← HFk] at bx
      clear HFk HGk hxc hyc
      generalize k / X = q1 at *
      generalize k / Y = q2 at *
      have nx : ¬ X = 0 := by omega
      have ny : ¬ Y = 0 := by omega
      have wq1 : IntKind.i64.wrap ((k : Int) / (X : Int)) = (q1 : Int) := by rw [d1]; exact wrapIn _ (by clear d1 d2; omega)
      have wq2 : IntKind.i64.wrap ((k : Int) / (Y : Int)) = (q2 : Int) := by rw [d2]; exact wrapIn _ (by clear d1 d2; omega)
      clear d1 d2
      have t1 : decide ((k : Int) < (n : Int)) = true := by simp; omega
      have b1 : (q1 : Int) < (an : Int) := by omega
      have b2 : (q2 : Int) < (bn : Int) := by omega
      have b3 : (k : Int) < (n : Int) := by omega
      have w2' : IntKind.i64.wrap ((k : Int) + 1) = (k : Int) + 1 := wrapIn _ (by omega)
      have al : ∀ V, Rw W5 V n k F → V.cell? ⟨w.heap.size, 1, none⟩ = some (.slice (some ⟨xb, xoff, none⟩) an ac) ∧ V.cell? ⟨w.heap.size + 1, 1, none⟩ = some (.slice (some ⟨yb, yoff, none⟩) bn bc) ∧ V.cell? ⟨xb, xoff + q1, none⟩ = some (.int .i64 (nth ax q1)) ∧ V.cell? ⟨yb, yoff + q2, none⟩ = some (.int .i64 (nth ay q2)) ∧ Rw W5 V n k F :=
        fun V r => ⟨(r.bel.cell (p := ⟨w.heap.size, 1, none⟩) (show w.heap.size < W5.heap.size by omega)).trans I5.c1, (r.bel.cell (p := ⟨w.heap.size + 1, 1, none⟩) (show w.heap.size + 1 < W5.heap.size by omega)).trans I5.d1, (r.bel.cell (p := ⟨xb, xoff + q1, none⟩) hxb).trans cx, (r.bel.cell (p := ⟨yb, yoff + q2, none⟩) hyb).trans cy, r⟩
      by_cases he : G k = 0
      · have HE2 : Hid (G k = 0) := he
        rw [he] at hfn
        clear he
        go_wp2
        go_region_held3 (fun V => V.cell? ⟨w.heap.size, 1, none⟩ = some (.slice (some ⟨xb, xoff, none⟩) an ac) ∧ V.cell? ⟨w.heap.size + 1, 1, none⟩ = some (.slice (some ⟨yb, yoff, none⟩) bn bc) ∧ V.cell? ⟨xb, xoff + q1, none⟩ = some (.int .i64 (nth ax q1)) ∧ V.cell? ⟨yb, yoff + q2, none⟩ = some (.int .i64 (nth ay q2)) ∧ Rw W5 V n k F) (first | exact al _ (by assumption) | exact al _ ((by assumption : Rw _ _ _ _ _).below (Below.refl _ _).drew) | exact al _ L4.less)
          (first | (go_at_call 94; have HS := (‹_ ∧ _ ∧ _ ∧ _ ∧ Rw W5 _ n k F›).2.2.2.2; (with_reducible refine (hfn _ HS).mono ?_); rintro e W7 ⟨rfl, m, hW7⟩; have L3 := HS.drewN m; rw [← hW7] at L3; clear hW7; obtain ⟨u, x0, x1⟩ := L3.slot k hlt; have L4 := L3.set hlt bx.1 bx.2))
        go_wp2
        go_roundw
        case rel => exact ⟨k + 1, by omega, by go_num, fun j hj => (by rcases Nat.lt_succ_iff_lt_or_eq.1 hj with h | h; exact HE.out j h; rw [h]; exact HE2.out), L4⟩
        case measure => simp [intOf]; omega
      · have HE2 : Hid (G k ≠ 0) := he
        have he' : (G k != 0) = true := by simpa using he
        have hfe : Hid (fe R = G k) := by
          show _ = _
          rw [HR.out, fe_at _ k (by simpa using hlt) (fun j hj => by rw [nth_range (by omega)]; exact HE.out j hj) (by rw [nth_range hlt]; exact he), nth_range hlt]
        clear he
        go_wp2
        go_region_held3 (fun V => V.cell? ⟨w.heap.size, 1, none⟩ = some (.slice (some ⟨xb, xoff, none⟩) an ac) ∧ V.cell? ⟨w.heap.size + 1, 1, none⟩ = some (.slice (some ⟨yb, yoff, none⟩) bn bc) ∧ V.cell? ⟨xb, xoff + q1, none⟩ = some (.int .i64 (nth ax q1)) ∧ V.cell? ⟨yb, yoff + q2, none⟩ = some (.int .i64 (nth ay q2)) ∧ Rw W5 V n k F) (first | exact al _ (by assumption) | exact al _ ((by assumption : Rw _ _ _ _ _).below (Below.refl _ _).drew) | exact al _ L4.less)
          (first | (go_at_call 94; have HS := (‹_ ∧ _ ∧ _ ∧ _ ∧ Rw W5 _ n k F›).2.2.2.2; (with_reducible refine (hfn _ HS).mono ?_); rintro e W7 ⟨rfl, m, hW7⟩; have L3 := HS.drewN m; rw [← hW7] at L3; clear hW7; obtain ⟨u, x0, x1⟩ := L3.slot k hlt; have L4 := L3.set hlt bx.1 bx.2; have I8 := I5.below L4.bel (Nat.le_refl _); obtain ⟨y0, y1, y2, y3⟩ := box2 I8.r))
        go_wp2
        (try simp only [Exit.inBlock, Exit.then])
        refine bodyPost_ret (v := .tuple #[.agg #[.slice none 0 0, .slice none 0 0], .int .i64 (G k)]) (by rw [results_cell_tmp rfl]; go_simp) rfl ?_
        rw [hfe.out, onOk_no HE2.out, onOk_no HE2.out]
        exact ⟨none, 0, 0, none, 0, 0, rfl, Ft.nil _ _ _, Ft.nil _ _ _, below_set2 _ _ _ _ I8.bel (by omega) (Nat.le_refl _)⟩
    · obtain rfl : k = n := by omega
      have t1 : decide ((k : Int) < (k : Int)) = false := by simp
      have hfe : Hid (fe R = 0) := by
        show _ = _
        rw [HR.out]
        exact fe_none _ (fun j hj => by simp only [List.length_map, List.length_range] at hj; rw [nth_range hj]; exact HE.out j hj)
      have I6 := I5.below L0.bel (Nat.le_refl _)
      obtain ⟨y0, y1, y2, y3⟩ := box2 I6.r
      go_wp2
      (try simp only [Exit.inBlock, Exit.then])
      refine bodyPost_ret (v := .tuple #[.agg #[.slice lo ln lc, .slice (some ⟨W5.heap.size, 0, none⟩) k k], .int .i64 0]) (by rw [results_cell_tmp rfl]; go_simp) rfl ?_
      rw [hfe.out, onOk_ok rfl, onOk_ok rfl]
      have sz := L0.bel.size
      have FA := L0.all LL (by rw [HL.out]; simp) (fun j hj => by rw [HL.out]; exact nth_range hj)
      have FS := (Fr.ft fl5).below L0.bel (Nat.le_refl _)
      refine ⟨_, _, _, _, _, _, rfl, (FS.keep1 (set2 _ _ _ _ _ _) (fun b off e => ?_)).mono (by omega), (FA.keep1 (set2 _ _ _ _ _ _) (fun b off e => ?_)).mono (by omega), below_set2 _ _ _ _ I6.bel (by omega) (Nat.le_refl _)⟩
      · have ww := (Array.getElem?_eq_some_iff.1 I3.r).1
        intro e'; have := (FS.at b off e).1; simp only [Option.some.injEq] at e'; omega
      · intro e'; cases e; simp only [Option.some.injEq] at e'; omega

theorem dyad_any (op : Int) (so ao to bo : Option Addr) (sn sc an ac tn tc bn bc : Nat) (sx ax sy ay : List Int) (w : World) (h1 : Rd w so sn sx) (h2 : Rd w ao an ax) (h3 : Rd w to tn sy) (h4 : Rd w bo bn ay) (hs : Sl so sn sc) (ht : Sl to tn tc) :
    Calls Tryz.prog 67 #[.int .i64 op, .agg #[.slice so sn sc, .slice ao an ac], .agg #[.slice to tn tc, .slice bo bn bc]] w fun e w' => ∃ o1 n1 c1 o2 n2 c2, e = .returned (.tuple #[.agg #[.slice o1 n1 c1, .slice o2 n2 c2], .int .i64 (ddE op sx ax sy ay)]) ∧ Ft 3 w' w.heap.size o1 n1 c1 (ddS op sx ax sy ay) ∧ Ft 2 w' w.heap.size o2 n2 c2 (ddA op sx ax sy ay) ∧ Below w.heap.size w w' := by
  unfold ddS ddA
  by_cases h0 : mayA sx ax ≠ 0 ∨ mayA sy ay ≠ 0
  · have e1 : ddE op sx ax sy ay = 1 := if_pos h0
    rw [e1, onOk_no (by decide), onOk_no (by decide)]
    exact (dyad_bad op so ao to bo sn sc an ac tn tc bn bc sx ax sy ay w h1 h2 h3 h4 h0).mono fun e w' ⟨h1, h2⟩ => ⟨none, 0, 0, none, 0, 0, h1, Ft.nil _ _ _, Ft.nil _ _ _, h2⟩
  · have a0 : mayA sx ax = 0 := Classical.byContradiction fun e => h0 (.inl e)
    have b0 : mayA sy ay = 0 := Classical.byContradiction fun e => h0 (.inr e)
    cases hk : lck (Nm.dE op 0 0)
    · cases ha : agrB sx sy
      · have e1 : ddE op sx ax sy ay = 11 := by unfold ddE; rw [if_neg h0, if_neg (by rw [hk]; decide), if_neg (by rw [ha]; decide)]
        rw [e1, onOk_no (by decide), onOk_no (by decide)]
        exact (dyad_len op so ao to bo sn sc an ac tn tc bn bc sx ax sy ay w h1 h2 h3 h4 hs ht a0 b0 hk ha).mono fun e w' ⟨h1, h2⟩ => ⟨none, 0, 0, none, 0, 0, h1, Ft.nil _ _ _, Ft.nil _ _ _, h2⟩
      · have e1 : ddE op sx ax sy ay = fe (dyR op sx ax sy ay) := by unfold ddE; rw [if_neg h0, if_neg (by rw [hk]; decide), if_pos ha]
        rw [e1]
        exact dyad_go op so ao to bo sn sc an ac tn tc bn bc sx ax sy ay w h1 h2 h3 h4 hs ht a0 b0 hk ha
    · have e1 : ddE op sx ax sy ay = Nm.dE op 0 0 := by unfold ddE; rw [if_neg h0, if_pos hk]
      rw [e1, onOk_no (lck_ne hk), onOk_no (lck_ne hk)]
      exact (dyad_lack op so ao to bo sn sc an ac tn tc bn bc sx ax sy ay w h1 h2 h3 h4 a0 b0 hk).mono fun e w' ⟨h1, h2⟩ => ⟨none, 0, 0, none, 0, 0, h1, Ft.nil _ _ _, Ft.nil _ _ _, h2⟩
end Go.Proofs.YtelcagfaflpolaaGreat
