
/- Contract of the document's own Fill. -/

import Derived.Test.YtkplfnajhinkiaaR4

namespace Go.Proofs.Ytkplfnajhinkiaa

open Go.RowKit

set_option linter.unusedVariables false

/-- Between the rounds of Fill. -/
structure Fi (w W : World) (g : Nat) (o1 : Option Addr) (sn c1 : Nat) (sh : List Int) (co : Option Addr) (j c : Nat) (n : Int) : Prop where
  box : W.heap[g]? = some (.cells #[.slice o1 sn c1, .slice co j c] 55 (0, 0))
  res : W.heap[w.heap.size]? = some (.cells #[.slice none 0 0, .slice none 0 0] 55 (0, 0))
  s : Rd W o1 sn sh
  sl : 0 < sn → ∀ b off, o1 = some ⟨b, off, none⟩ → w.heap.size < b ∧ b < g
  f : Ft 2 W (g + 1) co j c (List.replicate j n)
  bel : Below w.heap.size w W
  hg : w.heap.size < g

theorem Fi.step {w W W1 : World} {g : Nat} {o1 : Option Addr} {sn c1 : Nat} {sh : List Int} {co : Option Addr} {j c : Nat} {n : Int} (h : Fi w W g o1 sn c1 sh co j c n) {co' : Option Addr} {c' : Nat} (hf : Ft 2 W1 (g + 1) co' (j + 1) c' (List.replicate (j + 1) n)) (k : Below (g + 1) W W1) :
    Fi w (W1.setCell ⟨g, 1, none⟩ (.slice co' (j + 1) c')) g o1 sn c1 sh co' (j + 1) c' n := by
  have hg := h.hg
  have lg := (Array.getElem?_eq_some_iff.1 h.box).1
  have kk := set1 W1 g 1 (.slice co' (j + 1) c')
  have hbox : W1.heap[g]? = some (.cells #[.slice o1 sn c1, .slice co j c] 55 (0, 0)) := (k.block g (by omega)).trans h.box
  refine ⟨?_, (kk.block w.heap.size (by have := k.size; omega) (by simp; omega)).trans ((k.block w.heap.size (by omega)).trans h.res), ?_, h.sl, hf.keep1 kk (fun b off e => ?_), ?_, hg⟩
  · have := heap_setCell_same W1 g 1 _ 55 (.slice co' (j + 1) c') hbox
    simpa using this
  · have r1 : Rd W1 o1 sn sh := ⟨h.s.len, h.s.room, h.s.num, fun h0 => by
      obtain ⟨b, off, e, hl, hc⟩ := h.s.cells h0
      have := h.sl h0 b off e
      exact ⟨b, off, e, Nat.lt_of_lt_of_le hl k.size, fun i hi => (k.cell (p := ⟨b, off + i, none⟩) (by show b < g + 1; omega)).trans (hc i hi)⟩⟩
    exact r1.keep0 kk (fun h0 b off e => by have := h.sl h0 b off e; intro e'; cases e'; omega)
  · have := (hf.at b off e).1; intro e'; cases e'; omega
  · exact ⟨kk.os.trans (k.os.trans h.bel.os), kk.tape.trans (k.tape.trans h.bel.tape), kk.output.trans (k.output.trans h.bel.output), Nat.le_trans h.bel.size (Nat.le_trans k.size kk.size), fun i hi => (kk.block i (by have := h.bel.size; have := k.size; omega) (fun e => by cases e; omega)).trans ((k.block i (by omega)).trans (h.bel.block i hi))⟩

set_option maxHeartbeats 8000000 in
theorem refFill_any (so : Option Addr) (sn sc : Nat) (sh : List Int) (n : Int) (w : World) (h : Rd w so sn sh) (hs : Sl so sn sc) (h1 : -9223372036854775808 ≤ n) (h2 : n ≤ 9223372036854775807) :
    Calls Try.prog 74 #[.slice so sn sc, .int .i64 n] w fun e w' => ∃ o1 n1 c1 o2 n2 c2, e = .returned (.tuple #[.agg #[.slice o1 n1 c1, .slice o2 n2 c2], .int .i64 (mayF sh)]) ∧ Rd w' o1 n1 (filS sh) ∧ Rd w' o2 n2 (filA sh n) ∧ Below w.heap.size w w' := by
  have k0 := box_below w (.cells #[.slice none 0 0, .slice none 0 0] 55)
  have b0 := allocNew w (.cells #[.slice none 0 0, .slice none 0 0] 55)
  have h' := h.below k0 (Nat.le_refl _)
  have hz := refSize_any so sn sc sh _ h'
  have hroom := h.room
  by_cases h0 : mayF sh = 0
  · have bd := pr_small h0 sh.length (Nat.le_refl _)
    rw [List.take_length] at bd
    rw [h0, sizeF_ok h0] at hz
    have e1 : filS sh = sh := if_pos h0
    have e2 : filA sh n = List.replicate (pr sh).toNat n := if_pos h0
    rw [e1, e2, h0]
    obtain ⟨m, hm⟩ : ∃ m : Nat, pr sh = (m : Int) := ⟨(pr sh).toNat, by omega⟩
    rw [hm] at hz ⊢
    simp only [Int.toNat_natCast]
    have hm4 : m ≤ 4096 := by omega
    clear hm bd e1 e2 h0
    have fn := Ft.nil 3 (w.alloc (.cells #[.slice none 0 0, .slice none 0 0] 55)) (w.heap.size + 1)
    go_enter Try.func74, Try.ntmps74
    go_wp2_with (first
      | (go_at_call 53; refine hz.mono ?_; rintro e w' ⟨rfl, hw⟩; rw [hw]; clear hw w')
      | (at_builtin; refine wpList_joinT tyI rfl _ _ rfl (w.heap.size + 1) _ _ _ _ _ _ _ _ rfl rfl fn h' hs (by omega) (by simp) ?_; intro o1 c1 w1 f1 k1; rw [Nat.zero_add, List.nil_append] at f1; have s1 : w.heap.size + 1 ≤ w1.heap.size := (by have := k1.size; simpa using this)))
    have kb := box_below w1 (.cells #[.slice o1 sn c1, .slice none 0 0] 55)
    have F0 : Fi w (w1.alloc (.cells #[.slice o1 sn c1, .slice none 0 0] 55)) w1.heap.size o1 sn c1 sh none 0 0 n :=
      ⟨allocNew _ _, (kb.block w.heap.size (by omega)).trans ((k1.block w.heap.size (by omega)).trans b0), (f1.below kb (Nat.le_refl _)).rd, fun _ b off e => by have := f1.at b off e; omega, Ft.nil _ _ _, btw (k0.trans (k1.mono (by omega))) kb (by omega), by omega⟩
    clear h' hz b0 k0 fn h
    go_loopw [9] (fun i W => ∃ (j : Nat) (co : Option Addr) (c : Nat), j ≤ m ∧ i = .int .i64 (j : Nat) ∧ Fi w W w1.heap.size o1 sn c1 sh co j c n) (fun i _ => m - (intOf i).toNat)
    case atStart => exact ⟨0, none, 0, Nat.zero_le _, rfl, F0⟩
    case round =>
      obtain ⟨j, co, c, hj, rfl, FJ⟩ := hrel
      clear F0 kb
      obtain ⟨X0, X1, z0, z1⟩ := box2 FJ.box
      by_cases hlt : j < m
      · have f9 := ft_new 2 wr [n] (by simp) (num1 h1 h2)
        have kb := box_below wr (.cells #[.int .i64 n] 2)
        have f8 := FJ.f.below kb (Nat.le_refl _)
        have lg := (Array.getElem?_eq_some_iff.1 FJ.box).1
        go_wp2_with (at_builtin; refine wpList_joinT tyL rfl _ _ rfl (w1.heap.size + 1) _ _ _ _ _ _ _ _ rfl rfl f8 f9.rd f9.sl (by first | omega | (simp; omega)) (by first | omega | (simp; omega)) ?_; intro co' c' w2 f2 k2; have k3 : Below (w1.heap.size + 1) wr w2 := ((kb.mono (by omega)).trans k2); obtain ⟨Y0, Y1, y0, y1⟩ := box2 ((k3.block w1.heap.size (by omega)).trans FJ.box))
        go_roundw
        case rel => exact ⟨j + 1, co', c', by omega, by go_num, FJ.step (by rw [List.replicate_succ']; exact f2) k3⟩
        case measure => simp [intOf]; omega
      · obtain rfl : j = m := by omega
        obtain ⟨Z0, Z1, v0, v1⟩ := box2 FJ.res
        go_wp2
        (try simp only [Exit.inBlock, Exit.then])
        refine bodyPost_ret (v := .tuple #[.agg #[.slice o1 sn c1, .slice co j c], .int .i64 0]) (by rw [results_cell_tmp rfl]; go_simp) rfl ?_
        have hg := FJ.hg
        exact ⟨o1, sn, c1, co, j, c, rfl, FJ.s.keep0 (set2 _ _ _ _ _ _) (fun h0 b off e => by have := FJ.sl h0 b off e; intro e'; cases e'; omega), (FJ.f.keep1 (set2 _ _ _ _ _ _) (fun b off e => by have := (FJ.f.at b off e).1; intro e'; cases e'; omega)).rd, below_set2 _ _ _ _ FJ.bel (Nat.le_refl _) (Nat.le_refl _)⟩
  · have e1 : filS sh = [] := if_neg h0
    have e2 : filA sh n = [] := if_neg h0
    rw [e1, e2]
    have h0' : (mayF sh != 0) = true := by simpa using h0
    clear h0 e1 e2
    obtain ⟨q0, q1, z0, z1⟩ := box2 b0
    go_enter Try.func74, Try.ntmps74
    go_wp2_with (go_at_call 53; refine hz.mono ?_; rintro e w' ⟨rfl, hw⟩; rw [hw]; clear hw w')
    (try simp only [Exit.inBlock, Exit.then])
    refine bodyPost_ret (v := .tuple #[.agg #[.slice none 0 0, .slice none 0 0], .int .i64 (mayF sh)]) (by rw [results_cell_tmp rfl]; go_simp) rfl ?_
    refine ⟨none, 0, 0, none, 0, 0, rfl, Rd.nil _, Rd.nil _, ?_⟩
    first | exact k0 | exact below_set2 _ _ _ _ k0 (Nat.le_refl _) (Nat.le_refl _)
end Go.Proofs.Ytkplfnajhinkiaa
