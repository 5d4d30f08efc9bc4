
/- The memory in which an array is handed in: a long array is handed in as it is. -/

import Derived.Test.YtpkednlfhdpdhaaH3

namespace Go.Proofs.Ytpkednlfhdpdhaa

open Go.RowKit

set_option linter.unusedVariables false

/-- What is known while a hand is looked at. -/
structure Kt (w W : World) (B hb p : Nat) (so : Option Addr) (sn sc : Nat) (ao : Option Addr) (an ac : Nat) (sh at' : List Int) (g0 c0 g1 c1 : Nat) (f0 f1 : Nat → Int) : Prop where
  box : W.heap[hb]? = some (.cells #[.slice (some ⟨g0, 0, none⟩) c0 c0, .slice (some ⟨g1, 0, none⟩) c1 c1] 28 (0, 0))
  abox : W.heap[p]? = some (.cells #[.slice so sn sc, .slice ao an ac] 30 (0, 0))
  p0 : Pr 3 W g0 c0 c0 f0
  p1 : Pr 2 W g1 c1 c1 f1
  s : Rd W so sn sh
  a : Rd W ao an at'
  kp : Kp w W (fun b => b = g0 ∨ b = g1)

section

variable {w W : World} {B hb p : Nat} {so : Option Addr} {sn sc : Nat} {ao : Option Addr} {an ac : Nat} {sh at' : List Int} {g0 c0 g1 c1 : Nat} {f0 f1 : Nat → Int}

theorem Kt.set0 (h : Kt w W B hb p so sn sc ao an ac sh at' g0 c0 g1 c1 f0 f1) (ls : 0 < sn → ∀ b off, so = some ⟨b, off, none⟩ → b < B) (la : 0 < an → ∀ b off, ao = some ⟨b, off, none⟩ → b < B) (hB : B ≤ w.heap.size) (hb0 : B ≤ g0) {k : Nat} (hk : k < c0) {f' : Nat → Int} (u : Int) (hu : f' k = u) (ho : ∀ j, j ≠ k → f' j = f0 j) : Kt w (W.setCell ⟨g0, k, none⟩ (.int .i64 u)) B hb p so sn sc ao an ac sh at' g0 c0 g1 c1 f' f1 := by
  have s := set1 W g0 k (.int .i64 u)
  obtain ⟨cu, q0, _⟩ := h.p0.blk
  have l1 := (Array.getElem?_eq_some_iff.1 h.box).1
  have l2 := (Array.getElem?_eq_some_iff.1 h.abox).1
  have hne := rows_ne h.p0 h.p1
  have hs := h.kp.size
  refine ⟨(s.block hb l1 (fun e => ?_)).trans h.box, (s.block p l2 (fun e => ?_)).trans h.abox, h.p0.put k hk u hu ho, h.p1.kept s (fun e => by cases e; exact hne rfl), h.s.low0 ls (fun j hj => s.block j (by omega) (fun e => by cases e; omega)) s.size, h.a.low0 la (fun j hj => s.block j (by omega) (fun e => by cases e; omega)) s.size, h.kp.trans (Kp.of s) (fun j hj e => by cases e; exact .inl rfl)⟩
  · cases e; exact absurd (kinds q0 h.box) (by decide)
  · cases e; exact absurd (kinds q0 h.abox) (by decide)
theorem Kt.set1 (h : Kt w W B hb p so sn sc ao an ac sh at' g0 c0 g1 c1 f0 f1) (ls : 0 < sn → ∀ b off, so = some ⟨b, off, none⟩ → b < B) (la : 0 < an → ∀ b off, ao = some ⟨b, off, none⟩ → b < B) (hB : B ≤ w.heap.size) (hb1 : B ≤ g1) {k : Nat} (hk : k < c1) {f' : Nat → Int} (u : Int) (hu : f' k = u) (ho : ∀ j, j ≠ k → f' j = f1 j) : Kt w (W.setCell ⟨g1, k, none⟩ (.int .i64 u)) B hb p so sn sc ao an ac sh at' g0 c0 g1 c1 f0 f' := by
  have s := Go.Proofs.Ytpkednlfhdpdhaa.set1 W g1 k (.int .i64 u)
  obtain ⟨cu, q1, _⟩ := h.p1.blk
  have l1 := (Array.getElem?_eq_some_iff.1 h.box).1
  have l2 := (Array.getElem?_eq_some_iff.1 h.abox).1
  have hne := rows_ne h.p0 h.p1
  have hs := h.kp.size
  refine ⟨(s.block hb l1 (fun e => ?_)).trans h.box, (s.block p l2 (fun e => ?_)).trans h.abox, h.p0.kept s (fun e => by cases e; exact hne rfl), h.p1.put k hk u hu ho, h.s.low0 ls (fun j hj => s.block j (by omega) (fun e => by cases e; omega)) s.size, h.a.low0 la (fun j hj => s.block j (by omega) (fun e => by cases e; omega)) s.size, h.kp.trans (Kp.of s) (fun j hj e => by cases e; exact .inr rfl)⟩
  · cases e; exact absurd (kinds q1 h.box) (by decide)
  · cases e; exact absurd (kinds q1 h.abox) (by decide)
end

set_option maxHeartbeats 8000000 in
set_option maxRecDepth 20000 in
/-- Kept: the hand is as it was filled; then it is written over. -/
theorem kept3_any (hb B : Nat) (go0 go1 : Option Addr) (so ao : Option Addr) (sn sc an ac : Nat) (sh at' : List Int) (g0 c0 g1 c1 : Nat) (w0 w : World) (hd : Ld w0 w B hb go0 go1 sn an sh at' g0 c0 g1 c1) (hs : Rd w so sn sh) (ha : Rd w ao an at') (ls : 0 < sn → ∀ b off, so = some ⟨b, off, none⟩ → b < B) (la : 0 < an → ∀ b off, ao = some ⟨b, off, none⟩ → b < B) (hB : B ≤ w.heap.size) :
    Calls Try.prog 10 #[.pointer (some ⟨hb, 0, none⟩), .agg #[.slice so sn sc, .slice ao an ac]] w fun e w' => e = .returned (.bool true) ∧ Hx w' B hb (some ⟨g0, 0, none⟩) c0 (some ⟨g1, 0, none⟩) c1 ∧ Kp w w' (fun b => b = g0 ∨ b = g1) := by
  have kb := box_below w (.cells #[.slice so sn sc, .slice ao an ac] 30)
  have b0 := allocNew w (.cells #[.slice so sn sc, .slice ao an ac] 30)
  have lh := (Array.getElem?_eq_some_iff.1 hd.box).1
  have K0 : Kt w (w.alloc (.cells #[.slice so sn sc, .slice ao an ac] 30)) B hb w.heap.size so sn sc ao an ac sh at' g0 c0 g1 c1 (mrk mk7 sh sn) (mrk mk8 at' an) :=
    ⟨(kb.block hb lh).trans hd.box, b0, hd.p0.same (kb.block g0 hd.p0.lt), hd.p1.same (kb.block g1 hd.p1.lt), hs.below kb (Nat.le_refl _), ha.below kb (Nat.le_refl _), Kp.ofBelow kb⟩
  have hb0 := hd.b0
  have hb1 := hd.b1
  have l0 := hd.l0
  have l1 := hd.l1
  have u0 := hd.p0.le
  have u1 := hd.p1.le
  have hbase := hd.base
  have rs := hs.room
  have ra := ha.room
  clear hd hs ha kb b0
  go_enter Try.func10, Try.ntmps10
  go_wp2
  go_loopw [5, 6] (fun ok i V => ∃ k : Nat, k ≤ c0 ∧ ok = .bool true ∧ i = .int .i64 (k : Nat) ∧ Kt w V B hb w.heap.size so sn sc ao an ac sh at' g0 c0 g1 c1 (fun j => if j < k then 3 else mrk mk7 sh sn j) (mrk mk8 at' an)) (fun _ i _ => c0 - (intOf i).toNat)
  case atStart => exact ⟨0, Nat.zero_le _, rfl, rfl, by simpa using K0⟩
  case round =>
    obtain ⟨k, hk, rfl, rfl, KK⟩ := hrel
    clear K0
    obtain ⟨x1, x2, _, _⟩ := box2 KK.box
    obtain ⟨x3, x4, _, _⟩ := box2 KK.abox
    by_cases hlt : k < c0
    · have cv := KK.p0.cell hlt
      have zv := KK.p0.frozen k
      simp only [Nat.lt_irrefl, if_false] at cv
      have s1 := KK.set0 ls la hB hb0 hlt (f' := fun j => if j < k + 1 then 3 else mrk mk7 sh sn j) 3 (by rw [if_pos (by omega)]) (fun j hj => by
        by_cases c : j < k
        · rw [if_pos c, if_pos (by omega)]
        · rw [if_neg c, if_neg (by omega)])
      by_cases hkn : k < sn
      · obtain ⟨b, off, rfl, hb', hcs⟩ := KK.s.cells (by omega)
        have d1 := hcs k hkn
        have em : mrk mk7 sh sn k = nth sh k := by unfold mrk; rw [if_pos hkn]
        rw [em] at cv
        clear hcs em
        go_wp2
        go_roundw
        case rel => exact ⟨k + 1, by omega, rfl, by go_num, s1⟩
        case measure => simp [intOf]; omega
      · have em : mrk mk7 sh sn k = wrap64 (-70000 - (k : Int)) := by unfold mrk; rw [if_neg hkn]; rfl
        rw [em] at cv
        clear em
        go_wp2
        go_roundw
        case rel => exact ⟨k + 1, by omega, rfl, by go_num, s1⟩
        case measure => simp [intOf]; omega
    · obtain rfl : c0 = k := by omega
      go_wp2
      go_loopw [5, 8] (fun ok i V => ∃ k : Nat, k ≤ c1 ∧ ok = .bool true ∧ i = .int .i64 (k : Nat) ∧ Kt w V B hb w.heap.size so sn sc ao an ac sh at' g0 c0 g1 c1 (fun j => if j < c0 then 3 else mrk mk7 sh sn j) (fun j => if j < k then 99 else mrk mk8 at' an j)) (fun _ i _ => c1 - (intOf i).toNat)
      case atStart => exact ⟨0, Nat.zero_le _, rfl, rfl, by simpa using KK⟩
      case round =>
        clear KK x1 x2 x3 x4
        obtain ⟨k, hk, rfl, rfl, KK⟩ := hrel
        obtain ⟨x1, x2, _, _⟩ := box2 KK.box
        obtain ⟨x3, x4, _, _⟩ := box2 KK.abox
        by_cases hlt : k < c1
        · have cv := KK.p1.cell hlt
          have zv := KK.p1.frozen k
          simp only [Nat.lt_irrefl, if_false] at cv
          have s1 := KK.set1 ls la hB hb1 hlt (f' := fun j => if j < k + 1 then 99 else mrk mk8 at' an j) 99 (by rw [if_pos (by omega)]) (fun j hj => by
            by_cases c : j < k
            · rw [if_pos c, if_pos (by omega)]
            · rw [if_neg c, if_neg (by omega)])
          by_cases hkn : k < an
          · obtain ⟨b, off, rfl, hb', hcs⟩ := KK.a.cells (by omega)
            have d1 := hcs k hkn
            have em : mrk mk8 at' an k = nth at' k := by unfold mrk; rw [if_pos hkn]
            rw [em] at cv
            clear hcs em
            go_wp2
            go_roundw
            case rel => exact ⟨k + 1, by omega, rfl, by go_num, s1⟩
            case measure => simp [intOf]; omega
          · have em : mrk mk8 at' an k = wrap64 (-80000 - (k : Int)) := by unfold mrk; rw [if_neg hkn]; rfl
            rw [em] at cv
            clear em
            go_wp2
            go_roundw
            case rel => exact ⟨k + 1, by omega, rfl, by go_num, s1⟩
            case measure => simp [intOf]; omega
        · obtain rfl : c1 = k := by omega
          go_wp2
          go_ret
          exact ⟨rfl, ⟨KK.box, hbase, ⟨.inr ⟨g0, rfl, hb0, KK.p0.less (Nat.zero_le _) (fun j hj => by omega)⟩⟩, ⟨.inr ⟨g1, rfl, hb1, KK.p1.less (Nat.zero_le _) (fun j hj => by omega)⟩⟩⟩, KK.kp⟩
end Go.Proofs.Ytpkednlfhdpdhaa

namespace Go.Proofs.Ytpkednlfhdpdhaa

open Go.RowKit

set_option linter.unusedVariables false

set_option maxHeartbeats 4000000 in
theorem lay_long (hb B : Nat) (go0 go1 : Option Addr) (n0 n1 : Nat) (so ao : Option Addr) (sn sc an ac : Nat) (w : World) (hx : Hx w B hb go0 n0 go1 n1) (hl : ¬ (sn ≤ 5000 ∧ an ≤ 5000)) :
    Calls Try.prog 8 #[.pointer (some ⟨hb, 0, none⟩), .agg #[.slice so sn sc, .slice ao an ac]] w fun e w' => e = .returned (.agg #[.slice so sn sc, .slice ao an ac]) ∧ Hx w' B hb none 0 none 0 ∧ Kp w w' (fun b => b = hb) := by
  have t := two_boxes w so ao none none sn sc an ac 0 0 0 0
  have b1 := allocNew (w.alloc (.cells #[.slice so sn sc, .slice ao an ac] 30)) (.cells #[.slice none 0 0, .slice none 0 0] 30)
  have b0 := ((box_below (w.alloc (.cells #[.slice so sn sc, .slice ao an ac] 30)) (.cells #[.slice none 0 0, .slice none 0 0] 30)).block w.heap.size (by simp)).trans (allocNew w (.cells #[.slice so sn sc, .slice ao an ac] 30))
  rw [World.size_alloc] at b1
  have lh := (Array.getElem?_eq_some_iff.1 hx.box).1
  have cs := fun W => short_any so ao sn sc an ac W
  rw [show (decide (sn ≤ 5000) && decide (an ≤ 5000)) = false by simp; omega] at cs
  have szl : ((w.alloc (.cells #[.slice so sn sc, .slice ao an ac] 30)).alloc (.cells #[.slice none 0 0, .slice none 0 0] 30)).heap.size = w.heap.size + 1 + 1 := by simp
  have hbox0 := (t.bel.block hb lh).trans hx.box
  have ne1 : ¬ hb = w.heap.size := by omega
  have ne2 : ¬ hb = w.heap.size + 1 := by omega
  have ne3 : ¬ w.heap.size = hb := by omega
  have ne4 : ¬ w.heap.size + 1 = hb := by omega
  go_enter Try.func8, Try.ntmps8
  go_wp2_with (go_at_call 20; refine (cs _).mono ?_; rintro e w1 ⟨rfl, k1⟩; have hbox := (k1.block hb (by rw [szl]; omega)).trans hbox0; have abox := (k1.block w.heap.size (by rw [szl]; omega)).trans b0; have rbox := (k1.block (w.heap.size + 1) (by rw [szl]; omega)).trans b1; obtain ⟨x1, x2, x3, x4⟩ := box2 hbox; obtain ⟨y1, y2, y3, y4⟩ := box2 abox; obtain ⟨z1, z2, z3, z4⟩ := box2 rbox)
  (try simp only [Exit.inBlock, Exit.then])
  refine bodyPost_ret (v := .agg #[.slice so sn sc, .slice ao an ac]) (by simp [results, Try.results8]; go_simp) rfl ?_
  have s1 := set2 w1 hb 0 1 (.slice none 0 0) (.slice none 0 0)
  have s2 := set2 ((w1.setCell ⟨hb, 0, none⟩ (.slice none 0 0)).setCell ⟨hb, 1, none⟩ (.slice none 0 0)) (w.heap.size + 1) 0 1 (.slice so sn sc) (.slice ao an ac)
  have h1 := heap_setCell_same w1 hb 0 _ 28 (.slice none 0 0) hbox
  have h2 := heap_setCell_same _ hb 1 _ 28 (.slice none 0 0) h1
  have l1 := (Array.getElem?_eq_some_iff.1 hbox).1
  have hk1 : Kp w w1 (fun b => b = hb) := Kp.ofBelow (t.bel.trans (k1.mono (by rw [szl]; omega)))
  refine ⟨rfl, ⟨(s2.block hb (by have := s1.size; omega) (by simp; omega)).trans (by simpa using h2), hx.base, Rw.nil _ _ _, Rw.nil _ _ _⟩, ?_⟩
  refine (hk1.trans (Kp.of s1) (fun j hj e => by cases e; rfl)).trans (Kp.of s2) (fun j hj e => by cases e; omega)

/-- Kept, of a hand that holds nothing. -/
theorem kept3_nil (hb B : Nat) (so ao : Option Addr) (sn sc an ac : Nat) (w : World) (hx : Hx w B hb none 0 none 0) :
    Calls Try.prog 10 #[.pointer (some ⟨hb, 0, none⟩), .agg #[.slice so sn sc, .slice ao an ac]] w fun e w' => e = .returned (.bool true) ∧ Below w.heap.size w w' := by
  have kb := box_below w (.cells #[.slice so sn sc, .slice ao an ac] 30)
  have lh := (Array.getElem?_eq_some_iff.1 hx.box).1
  obtain ⟨x1, x2, _, _⟩ := box2 ((kb.block hb lh).trans hx.box)
  go_enter Try.func10, Try.ntmps10
  go_wp2
  refine wp_loop_rounds 1 ?_
  rw [rounds_succ]
  go_wp2
  refine wp_loop_rounds 1 ?_
  rw [rounds_succ]
  go_wp2
  go_ret
  exact ⟨rfl, kb⟩
end Go.Proofs.Ytpkednlfhdpdhaa
