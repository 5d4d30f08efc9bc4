
/- Package term: Size. -/

import Derived.Test.YtiahilelcppfgaaGreatTC

import Derived.Laws.EntriesVeiled

namespace Go.Proofs.YtiahilelcppfgaaGreat

open Go.RowKit

set_option linter.unusedVariables false

theorem count_any : ∀ (d : Nat) (y : Tr d) (c0 c1 c2 c3 c4 c5 : Value) (w0 W : World) (pn pd pc n m a : Nat), Tv w0 d y [c0, c1, c2, c3, c4, c5] → Cnt w0 W pn pd pc n m → 1 ≤ a → a ≤ 257 → Calls Tryz.prog 36 #[.agg #[c0, c1, c2, c3, c4, c5], .int .i64 (a : Nat), .pointer (some ⟨pn, 0, none⟩), .pointer (some ⟨pd, 0, none⟩), .pointer (some ⟨pc, 0, none⟩)] W fun e w' => CntP d y pn pd n m a W e w'
  | 0, _, _, _, _, _, _, _, _, _, _, _, _, _, _, _, h, _, _, _ => h.elim
  | d + 1, y, c0, c1, c2, c3, c4, c5, w0, W, pn, pd, pc, n, m, a, h, hC, ha, hb => by
    obtain ⟨⟨so, sn, sc, ao, an, ac, ko, kc, ev, h1, h2, h3, h4, h5, h6⟩, _, _, _⟩ := h
    injection ev with ev0 ev
    injection ev with ev1 ev
    injection ev with ev2 ev
    injection ev with ev3 ev
    injection ev with ev4 ev
    injection ev with ev5 ev
    subst ev0 ev1 ev2 ev3 ev4 ev5
    exact count_one d y _ _ ko kc w0 W pn pd pc a n m hC h5 ha hb (fun z c0 c1 c2 c3 c4 c5 V n m a hz hC ha hb => count_any d z c0 c1 c2 c3 c4 c5 w0 V pn pd pc n m a hz hC ha hb)

/-- What Size tells. -/
def szO (d : Nat) (x : Tr d) : Bool := decide (nds d x ≤ 4096 ∧ dep d x ≤ 256)
def szN (d : Nat) (x : Tr d) : Nat := if szO d x then nds d x else 4097
def szD (d : Nat) (x : Tr d) : Nat := if szO d x then dep d x else 257
theorem dep_pos : ∀ (d : Nat) (x : Tr d) , 1 ≤ d → 1 ≤ dep d x
  | 0, _, h => by omega
  | d + 1, x, _ => Nat.le_add_right _ _
theorem cok_01 (d : Nat) (x : Tr d) : cok d x 0 1 = szO d x := by
  unfold cok szO
  congr 1
  apply propext
  omega
theorem below_set1 {a W : World} {B b : Nat} (o : Nat) (v : Value) (h : Below B a W) (hb : B ≤ b) (hs : B ≤ a.heap.size) : Below B a (W.setCell ⟨b, o, none⟩ v) :=
  have k := set1 W b o v
  ⟨k.os.trans h.os, k.tape.trans h.tape, k.output.trans h.output, Nat.le_trans h.size k.size, fun j hj => (k.block j (Nat.lt_of_lt_of_le (Nat.lt_of_lt_of_le hj hs) h.size) (fun e => by cases e; omega)).trans (h.block j hj)⟩
theorem below_set2' {a W : World} {b b' : Nat} {v v' : Value} (h : Below a.heap.size a W) (hb : a.heap.size ≤ b) (hb' : a.heap.size ≤ b') : Below a.heap.size a ((W.setCell ⟨b, 0, none⟩ v).setCell ⟨b', 0, none⟩ v') :=
  below_set1 0 v' (below_set1 0 v h hb (Nat.le_refl _)) hb' (Nat.le_refl _)
set_option linter.unusedSimpArgs false in
set_option maxHeartbeats 4000000 in
theorem tsize_any (d : Nat) (x : Tr d) (c0 c1 c2 c3 c4 c5 : Value) (w : World) (h : Tv w d x [c0, c1, c2, c3, c4, c5]) :
    Calls Tryz.prog 13 #[.agg #[c0, c1, c2, c3, c4, c5]] w fun e w' => e = .returned (.tuple #[.int .i64 (szN d x : Nat), .int .i64 (szD d x : Nat)]) ∧ Below w.heap.size w w' := by
  have hd : 1 ≤ d := by
    cases d with
    | zero => exact h.elim
    | succ d => omega
  have hdp := dep_pos d x hd
  have hcn := fun W C => count_any d x c0 c1 c2 c3 c4 c5 w W (w.heap.size + 1) (w.heap.size + 1 + 1) (w.heap.size + 1 + 1 + 1) 0 0 1 h C (by omega) (by omega)
  obtain ⟨k1, t1, n1, so, sn, sc, ao, an, ac, uo, un, uc, ev⟩ := h.form
  injection ev with ev0 ev
  injection ev with ev1 ev
  injection ev with ev2 ev
  injection ev with ev3 ev
  injection ev with ev4 ev
  injection ev with ev5 ev
  subst ev0 ev1 ev2 ev3 ev4 ev5
  obtain ⟨W5, hW5⟩ : ∃ W5, (((w.alloc (.cells #[.int .i64 k1, .string t1, .int .i64 n1, .slice so sn sc, .slice ao an ac, .slice uo un uc] 31)).alloc (.cells #[.int .i64 0] 3)).alloc (.cells #[.int .i64 0] 3)).alloc (.cells #[cloS (w.heap.size + 1) (w.heap.size + 1 + 1) (w.heap.size + 1 + 1 + 1)] 63) = W5 := ⟨_, rfl⟩
  have B1 := box_below w (.cells #[.int .i64 k1, .string t1, .int .i64 n1, .slice so sn sc, .slice ao an ac, .slice uo un uc] 31)
  have B5 : Below w.heap.size w W5 := by
    rw [← hW5]
    exact ((B1.alloc (by simp) _).alloc (by simp; omega) _).alloc (by simp; omega) _
  have N1 := Boxed.new (w.alloc (.cells #[.int .i64 k1, .string t1, .int .i64 n1, .slice so sn sc, .slice ao an ac, .slice uo un uc] 31)) 3 (.int .i64 0)
  have N2 := Boxed.new ((w.alloc (.cells #[.int .i64 k1, .string t1, .int .i64 n1, .slice so sn sc, .slice ao an ac, .slice uo un uc] 31)).alloc (.cells #[.int .i64 0] 3)) 3 (.int .i64 0)
  have N3 := Boxed.new (((w.alloc (.cells #[.int .i64 k1, .string t1, .int .i64 n1, .slice so sn sc, .slice ao an ac, .slice uo un uc] 31)).alloc (.cells #[.int .i64 0] 3)).alloc (.cells #[.int .i64 0] 3)) 63 (cloS (w.heap.size + 1) (w.heap.size + 1 + 1) (w.heap.size + 1 + 1 + 1))
  simp only [World.size_alloc] at N1 N2 N3
  have C5 : Cnt w W5 (w.heap.size + 1) (w.heap.size + 1 + 1) (w.heap.size + 1 + 1 + 1) 0 0 := by
    rw [← hW5]
    refine ⟨hW5.symm ▸ B5, by omega, by omega, by omega, by omega, by omega, (N1.alloc _).alloc _, N2.alloc _, N3.cell, by omega, by omega⟩
  have hcl := hcn W5 C5
  have zc := N3.cell
  rw [hW5] at zc
  obtain ⟨z0, z1, z2, z3, z4, z5⟩ := box6 (show W5.heap[w.heap.size]? = some (.cells #[.int .i64 k1, .string t1, .int .i64 n1, .slice so sn sc, .slice ao an ac, .slice uo un uc] 31 (0, 0)) from by
    have e := allocNew w (.cells #[.int .i64 k1, .string t1, .int .i64 n1, .slice so sn sc, .slice ao an ac, .slice uo un uc] 31)
    rw [← hW5]
    have b := (((Below.refl (w.heap.size + 1) (w.alloc (.cells #[.int .i64 k1, .string t1, .int .i64 n1, .slice so sn sc, .slice ao an ac, .slice uo un uc] 31))).alloc (by simp) (.cells #[.int .i64 0] 3)).alloc (by simp) (.cells #[.int .i64 0] 3)).alloc (by simp) (.cells #[cloS (w.heap.size + 1) (w.heap.size + 1 + 1) (w.heap.size + 1 + 1 + 1)] 63)
    rw [b.block w.heap.size (by omega)]; exact e)
  have e01 := cok_01 d x
  clear hcn N1 N2 N3 B1 C5
  unfold CntP at hcl
  rw [e01, show ((1 : Nat) : Int) = 1 from rfl] at hcl
  unfold cloS at hW5 zc
  by_cases hok : szO d x = true
  · have eN : szN d x = nds d x := by unfold szN; rw [if_pos hok]
    have eD : szD d x = dep d x := by unfold szD; rw [if_pos hok]
    have hcl2 := hcl.mono (R' := fun e w' => e = .returned (.bool true) ∧ Below w.heap.size w w' ∧ Boxed w' (w.heap.size + 1) 3 (.int .i64 (szN d x : Nat)) ∧ Boxed w' (w.heap.size + 1 + 1) 3 (.int .i64 (szD d x : Nat))) (by
      rintro e w' ⟨n', m', rfl, h1, h2, h3, h4⟩
      obtain ⟨h5, h6⟩ := h4 hok
      refine ⟨by rw [hok], h1.below B5 (fun k hk => by omega) (Nat.le_refl _), ?_, ?_⟩
      · rw [eN]; have : n' = nds d x := by omega
        rw [← this]; exact h2
      · rw [eD]; have : m' = dep d x := by omega
        rw [← this]; exact h3)
    clear hcl hok e01 eN eD hdp
    generalize szN d x = N at *
    generalize szD d x = D at *
    go_enter Tryz.func13, Tryz.ntmps13
    go_wp2_with (go_at_call 36; (with_reducible refine hcl2.mono ?_); rintro e w6 ⟨rfl, b6, bn6, bd6⟩; have i1 := bn6.cell; have i2 := bd6.cell; have i3 := bn6.frozen; have i4 := bd6.frozen)
    have s1 := bn6.set (.int .i64 (N : Nat))
    have s2 := bd6.other (B' := w.heap.size + 1) (by omega) (.int .i64 (N : Nat))
    have f2 := s2.frozen
    have s3 := (s1.other (B' := w.heap.size + 1 + 1) (by omega) (.int .i64 (D : Nat))).cell
    have s4 := (s2.set (.int .i64 (D : Nat))).cell
    go_region
    go_wp2
    (try simp only [Exit.inBlock, Exit.then])
    refine bodyPost_ret (v := .tuple #[.int .i64 (N : Nat), .int .i64 (D : Nat)]) (by simp [results, Tryz.results13]; go_simp) rfl ?_
    exact ⟨rfl, (below_set2' b6 (Nat.le_succ _) (by omega)).drew⟩
  · have hno : szO d x = false := by simpa using hok
    have eN : szN d x = 4097 := by unfold szN; rw [if_neg hok]
    have eD : szD d x = 257 := by unfold szD; rw [if_neg hok]
    have hcl2 := hcl.mono (R' := fun e w' => ∃ n m : Nat, e = .returned (.bool false) ∧ Below w.heap.size w w' ∧ Boxed w' (w.heap.size + 1) 3 (.int .i64 (n : Nat)) ∧ Boxed w' (w.heap.size + 1 + 1) 3 (.int .i64 (m : Nat))) (by
      rintro e w' ⟨n', m', rfl, h1, h2, h3, h4⟩
      exact ⟨n', m', by rw [hno], h1.below B5 (fun k hk => by omega) (Nat.le_refl _), h2, h3⟩)
    clear hcl hok e01 hdp
    rw [eN, eD]
    clear eN eD
    go_enter Tryz.func13, Tryz.ntmps13
    go_wp2_with (go_at_call 36; (with_reducible refine hcl2.mono ?_); rintro e w6 ⟨n6, m6, rfl, b6, bn6, bd6⟩; have i1 := bn6.cell; have i2 := bd6.cell; have i3 := bn6.frozen; have i4 := bd6.frozen; have s1 := bn6.set (.int .i64 4097); have s2 := bd6.other (B' := w.heap.size + 1) (by omega) (.int .i64 4097); have f2 := s2.frozen; have g2 := s2.cell; have s3 := (s1.other (B' := w.heap.size + 1 + 1) (by omega) (.int .i64 257)).cell; have s4 := (s2.set (.int .i64 257)).cell)
    (try simp only [Exit.inBlock, Exit.then])
    refine bodyPost_ret (v := .tuple #[.int .i64 4097, .int .i64 257]) (by simp [results, Tryz.results13]; go_simp) rfl ?_
    exact ⟨rfl, below_set2' b6 (Nat.le_succ _) (by omega)⟩
set_option maxHeartbeats 1000000 in
theorem tooGreat_any (d : Nat) (x : Tr d) (c0 c1 c2 c3 c4 c5 : Value) (w : World) (h : Tv w d x [c0, c1, c2, c3, c4, c5]) :
    Calls Tryz.prog 34 #[.agg #[c0, c1, c2, c3, c4, c5]] w fun e w' => e = .returned (.bool (!szO d x)) ∧ Below w.heap.size w w' := by
  obtain ⟨k1, t1, n1, so, sn, sc, ao, an, ac, uo, un, uc, ev⟩ := h.form
  injection ev with ev0 ev
  injection ev with ev1 ev
  injection ev with ev2 ev
  injection ev with ev3 ev
  injection ev with ev4 ev
  injection ev with ev5 ev
  subst ev0 ev1 ev2 ev3 ev4 ev5
  have k0 := box_below w (.cells #[.int .i64 k1, .string t1, .int .i64 n1, .slice so sn sc, .slice ao an ac, .slice uo un uc] 31)
  obtain ⟨b0, b1, b2, b3, b4, b5⟩ := box6 (allocNew w (.cells #[.int .i64 k1, .string t1, .int .i64 n1, .slice so sn sc, .slice ao an ac, .slice uo un uc] 31))
  have hs := tsize_any d x _ _ _ _ _ _ _ (Tv.below k0 (Nat.le_refl _) _ _ _ h)
  have t0 : decide ((4096 : Int) < (szN d x : Nat)) = !szO d x := by
    unfold szN
    cases e : szO d x
    · rfl
    · unfold szO at e
      have := of_decide_eq_true e
      simp; omega
  generalize szN d x = N at *
  generalize szD d x = D at *
  go_enter Tryz.func34, Tryz.ntmps34
  go_wp2_with (go_at_call 13; (with_reducible refine hs.mono ?_); rintro e w6 ⟨rfl, b6⟩)
  go_ret
  exact ⟨ret_bool (by first | exact t0 | (rw [← t0])), k0.trans (b6.mono k0.size)⟩
end Go.Proofs.YtiahilelcppfgaaGreat
