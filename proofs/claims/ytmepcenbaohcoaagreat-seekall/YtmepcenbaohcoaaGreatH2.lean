
/- The memory in which an array is handed in: what is known while it is filled. -/

import Derived.Test.YtmepcenbaohcoaaGreatR3

import Derived.Test.YtmepcenbaohcoaaGreatYJ

import Derived.Maps.AppendAt

import Derived.Deep.DeepCutAuto

import Derived.Deep.CutBlock

namespace Go.Proofs.YtmepcenbaohcoaaGreat

open Go.RowKit

set_option linter.unusedVariables false

theorem refAt_any3 (so ao : Option Addr) (sn sc an ac : Nat) (sh at' : List Int) (w : World) (h : Rd w so sn sh) (hs : Sl so sn sc) (g : Rd w ao an at') (gs : Sl ao an ac) (h0 : mayA sh at' = 0) {N z : Nat} (hN : tal sh = N) (hz : itmZ sh at' = z) (j : Nat) (hj : j < N) :
    Calls Tryz.prog 51 #[.agg #[.slice so sn sc, .slice ao an ac], .int .i64 (j : Nat)] w fun e w' => ∃ o1 c1 o2 c2, e = .returned (.agg #[.slice o1 (sn - 1) c1, .slice o2 z c2]) ∧ Ft 3 w' w.heap.size o1 (sn - 1) c1 (sh.drop 1) ∧ Ft 2 w' w.heap.size o2 z c2 ((at'.drop (j * z)).take z) ∧ Below w.heap.size w w' := by
  obtain ⟨m1, m2⟩ := mayA_zero h0
  obtain ⟨t1, t2⟩ := items_all h0 hN hz
  have hl := at_len h0
  have gl := g.len
  have tb := tal_bd m1
  have hb : (j + 1) * z ≤ an := by
    have : (j + 1) * z ≤ N * z := Nat.mul_le_mul_right _ hj
    omega
  by_cases hz0 : 0 < z
  · exact refAt_some so ao sn sc an ac sh at' w h hs g gs j z (mayF_tail m1) (t2 (by omega)) (by omega) (by omega) hb hz0
  · exact refAt_zero so ao sn sc an ac sh at' w h hs g gs j z (mayF_tail m1) (t2 (by omega)) (by omega) (by omega) hb (by omega)

end Go.Proofs.YtmepcenbaohcoaaGreat

namespace Go.Proofs.YtmepcenbaohcoaaGreat

open Go.RowKit

set_option linter.unusedVariables false

/-- A row of numbers whose first m are told. -/
structure Pr (e : TypeId) (W : World) (g cap m : Nat) (f : Nat → Int) : Prop where
  blk : ∃ cur, W.heap[g]? = some (.cells cur e (0, 0)) ∧ cur.size = cap ∧ ∀ k, k < m → cur[k]? = some (.int .i64 (f k))
  le : cap ≤ 9223372036854775807

section

variable {e : TypeId} {W W' : World} {g cap m : Nat} {f : Nat → Int}

theorem Pr.lt (h : Pr e W g cap m f) : g < W.heap.size := by
  obtain ⟨cur, h1, _⟩ := h.blk
  exact (Array.getElem?_eq_some_iff.1 h1).1
theorem Pr.cell (h : Pr e W g cap m f) {k : Nat} (hk : k < m) : W.cell? ⟨g, k, none⟩ = some (.int .i64 (f k)) := by
  obtain ⟨cur, h1, h2, h3⟩ := h.blk
  rw [cell_of_row W g k cur e (0, 0) h1]; exact h3 k hk
theorem Pr.is (h : Pr e W g cap m f) {k : Nat} (hk : k < cap) : ∃ v, W.cell? ⟨g, k, none⟩ = some v := by
  obtain ⟨cur, h1, h2, h3⟩ := h.blk
  rw [cell_of_row W g k cur e (0, 0) h1]
  exact ⟨cur[k], by simp [h2, hk]⟩
theorem Pr.frozen (h : Pr e W g cap m f) (k : Nat) : W.frozen? ⟨g, k, none⟩ = false := by
  obtain ⟨cur, h1, h2, h3⟩ := h.blk
  exact frozen_of_row W g k cur e h1
theorem Pr.set (h : Pr e W g cap m f) (hm : m < cap) (u : Int) (hu : f m = u) : Pr e (W.setCell ⟨g, m, none⟩ (.int .i64 u)) g cap (m + 1) f := by
  obtain ⟨cur, h1, h2, h3⟩ := h.blk
  refine ⟨⟨cur.setIfInBounds m (.int .i64 u), heap_setCell_same W g m cur e _ h1, by simpa using h2, fun k hk => ?_⟩, h.le⟩
  by_cases c : k = m
  · subst c; rw [hu]; simp [h2, hm]
  · rw [Array.getElem?_setIfInBounds_ne (Ne.symm c)]; exact h3 k (by omega)
theorem Pr.put {f' : Nat → Int} (m : Nat) (h : Pr e W g cap cap f) (hm : m < cap) (u : Int) (hu : f' m = u) (ho : ∀ k, k ≠ m → f' k = f k) : Pr e (W.setCell ⟨g, m, none⟩ (.int .i64 u)) g cap cap f' := by
  obtain ⟨cur, h1, h2, h3⟩ := h.blk
  refine ⟨⟨cur.setIfInBounds m (.int .i64 u), heap_setCell_same W g m cur e _ h1, by simpa using h2, fun k hk => ?_⟩, h.le⟩
  by_cases c : k = m
  · subst c; rw [hu]; simp [h2, hm]
  · rw [Array.getElem?_setIfInBounds_ne (Ne.symm c), ho k c]; exact h3 k hk
theorem Pr.kept {row : Option Nat} (h : Pr e W g cap m f) (hg : W.grownBy W' row) (hne : some g ≠ row) : Pr e W' g cap m f := by
  obtain ⟨cur, h1, h2, h3⟩ := h.blk
  exact ⟨⟨cur, (hg.block g h.lt hne).trans h1, h2, h3⟩, h.le⟩
theorem Pr.same (h : Pr e W g cap m f) (hb : W'.heap[g]? = W.heap[g]?) : Pr e W' g cap m f := by
  obtain ⟨cur, h1, h2, h3⟩ := h.blk
  exact ⟨⟨cur, hb.trans h1, h2, h3⟩, h.le⟩
theorem Pr.less {m' : Nat} {f' : Nat → Int} (h : Pr e W g cap m f) (hm : m' ≤ m) (hf : ∀ k, k < m' → f' k = f k) : Pr e W g cap m' f' := by
  obtain ⟨cur, h1, h2, h3⟩ := h.blk
  exact ⟨⟨cur, h1, h2, fun k hk => by rw [hf k hk]; exact h3 k (by omega)⟩, h.le⟩
/-- Its first numbers read as a list. -/
theorem Pr.rd {n : Nat} {zs : List Int} (h : Pr e W g cap m f) (hn : n ≤ m) (hl : zs.length = n) (hr : n * 8 ≤ 140737488351232) (hnum : ∀ k, k < n → -9223372036854775808 ≤ nth zs k ∧ nth zs k ≤ 9223372036854775807) (hf : ∀ k, k < n → f k = nth zs k) : Rd W (some ⟨g, 0, none⟩) n zs :=
  ⟨hl, hr, hnum, fun _ => ⟨g, 0, rfl, h.lt, fun k hk => by rw [Nat.zero_add, h.cell (by omega), hf k hk]⟩⟩
end

/-- Nothing, or a row of its own with all its room. -/
structure Rw (e : TypeId) (W : World) (B : Nat) (go : Option Addr) (n : Nat) : Prop where
  is : (go = none ∧ n = 0) ∨ ∃ g, go = some ⟨g, 0, none⟩ ∧ B ≤ g ∧ Pr e W g n 0 (fun _ => 0)
theorem Rw.nil (e : TypeId) (W : World) (B : Nat) : Rw e W B none 0 := ⟨.inl ⟨rfl, rfl⟩⟩
theorem Rw.le {e : TypeId} {W : World} {B : Nat} {go : Option Addr} {n : Nat} (h : Rw e W B go n) : n ≤ 9223372036854775807 := by
  rcases h.is with ⟨_, rfl⟩ | ⟨g, _, _, p⟩
  · omega
  · exact p.le
theorem Rw.ft {e : TypeId} {W : World} {B : Nat} {go : Option Addr} {n : Nat} (h : Rw e W B go n) : Ft e W B go 0 n [] := by
  rcases h.is with ⟨rfl, rfl⟩ | ⟨g, rfl, h1, h3⟩
  · exact Ft.nil _ _ _
  · obtain ⟨cur, c1, c2, _⟩ := h3.blk
    exact ⟨Rd.empty _ _, rfl, .inr ⟨g, n, cur, rfl, h1, c1, Nat.zero_le _, by unfold maxLen; have := h3.le; omega, by omega, rfl⟩⟩
theorem Rw.same {e : TypeId} {W W' : World} {B : Nat} {go : Option Addr} {n : Nat} (h : Rw e W B go n) (hb : ∀ g, go = some ⟨g, 0, none⟩ → W'.heap[g]? = W.heap[g]?) : Rw e W' B go n := by
  rcases h.is with ⟨rfl, rfl⟩ | ⟨g, rfl, h1, h3⟩
  · exact Rw.nil _ _ _
  · exact ⟨.inr ⟨g, rfl, h1, h3.same (hb g rfl)⟩⟩
theorem Rw.at {e : TypeId} {W : World} {B : Nat} {go : Option Addr} {n : Nat} (h : Rw e W B go n) : ∀ g, go = some ⟨g, 0, none⟩ → B ≤ g ∧ g < W.heap.size ∧ ∃ cur, W.heap[g]? = some (.cells cur e (0, 0)) := by
  rintro g rfl
  rcases h.is with ⟨e, _⟩ | ⟨g', e, h1, h3⟩
  · cases e
  · cases e
    obtain ⟨cur, c1, _⟩ := h3.blk
    exact ⟨h1, h3.lt, cur, c1⟩

/-- All that lies outside some blocks is as it was. -/
structure Kp (w w' : World) (S : Nat → Prop) : Prop where
  os : w'.os = w.os
  tape : w'.tape = w.tape
  output : w'.output = w.output
  size : w.heap.size ≤ w'.heap.size
  block : ∀ k, k < w.heap.size → ¬ S k → w'.heap[k]? = w.heap[k]?
theorem Kp.refl (w : World) (S : Nat → Prop) : Kp w w S := ⟨rfl, rfl, rfl, Nat.le_refl _, fun _ _ _ => rfl⟩
theorem Kp.trans {a b c : World} {S T : Nat → Prop} (h : Kp a b S) (k : Kp b c T) (hT : ∀ j, j < a.heap.size → T j → S j) : Kp a c S :=
  ⟨k.os.trans h.os, k.tape.trans h.tape, k.output.trans h.output, Nat.le_trans h.size k.size, fun j hj hn => (k.block j (Nat.lt_of_lt_of_le hj h.size) (fun t => hn (hT j hj t))).trans (h.block j hj hn)⟩
theorem Kp.of {w w' : World} {row : Option Nat} (h : w.grownBy w' row) : Kp w w' (fun b => some b = row) := ⟨h.os, h.tape, h.output, h.size, fun k hk hn => h.block k hk hn⟩
theorem Kp.ofBelow {w w' : World} {S : Nat → Prop} (h : Below w.heap.size w w') : Kp w w' S := ⟨h.os, h.tape, h.output, h.size, fun k hk _ => h.block k hk⟩
theorem Kp.below {w w' : World} {S : Nat → Prop} {B : Nat} (h : Kp w w' S) (hB : B ≤ w.heap.size) (hS : ∀ j, j < B → ¬ S j) : Below B w w' := ⟨h.os, h.tape, h.output, h.size, fun k hk => h.block k (by omega) (hS k hk)⟩
theorem Kp.wide {a b : World} {S T : Nat → Prop} (h : Kp a b S) (hT : ∀ j, S j → T j) : Kp a b T := ⟨h.os, h.tape, h.output, h.size, fun k hk hn => h.block k hk (fun s => hn (hT k s))⟩
end Go.Proofs.YtmepcenbaohcoaaGreat

namespace Go.Proofs.YtmepcenbaohcoaaGreat

open Go.RowKit

set_option linter.unusedVariables false

theorem short_any (so ao : Option Addr) (sn sc an ac : Nat) (w : World) : Calls Tryz.prog 19 #[.agg #[.slice so sn sc, .slice ao an ac]] w fun e w' => e = .returned (.bool (decide (sn ≤ 5000) && decide (an ≤ 5000))) ∧ Below w.heap.size w w' := by
  have hb := box_below w (.cells #[.slice so sn sc, .slice ao an ac] 30)
  by_cases h1 : sn ≤ 5000
  · by_cases h2 : an ≤ 5000
    · have g1 : decide ((sn : Int) ≤ 5000) = true := by simp; omega
      have g2 : decide ((an : Int) ≤ 5000) = true := by simp; omega
      have HR : Hid ((decide (sn ≤ 5000) && decide (an ≤ 5000)) = true) := by show _ = _; simp [h1, h2]
      go_enter Tryz.func19, Tryz.ntmps19
      go_wp2
      go_ret
      exact ⟨ret_bool (by first | exact HR.out.symm | (rw [HR.out]; simp)), hb⟩
    · have g1 : decide ((sn : Int) ≤ 5000) = true := by simp; omega
      have g2 : decide ((an : Int) ≤ 5000) = false := by simp; omega
      have HR : Hid ((decide (sn ≤ 5000) && decide (an ≤ 5000)) = false) := by show _ = _; simp [h2]
      go_enter Tryz.func19, Tryz.ntmps19
      go_wp2
      go_ret
      exact ⟨ret_bool (by first | exact HR.out.symm | (rw [HR.out]; simp)), hb⟩
  · have g1 : decide ((sn : Int) ≤ 5000) = false := by simp; omega
    have HR : Hid ((decide (sn ≤ 5000) && decide (an ≤ 5000)) = false) := by show _ = _; simp [h1]
    go_enter Tryz.func19, Tryz.ntmps19
    go_wp2
    go_ret
    exact ⟨ret_bool (by first | exact HR.out.symm | (rw [HR.out]; simp)), hb⟩

/-- The block of a row that begins a block. -/
def ownB (go : Option Addr) : Option Nat := (Value.slice go 0 0).ownBlock
theorem own_slice (go : Option Addr) (n c : Nat) : (Value.slice go n c).ownBlock = ownB go := by cases go <;> rfl

/-- A hand: its box, and two rows of its own. -/
structure Hx (W : World) (B hb : Nat) (go0 : Option Addr) (n0 : Nat) (go1 : Option Addr) (n1 : Nat) : Prop where
  box : W.heap[hb]? = some (.cells #[.slice go0 n0 n0, .slice go1 n1 n1] 28 (0, 0))
  base : B ≤ hb
  r0 : Rw 3 W B go0 n0
  r1 : Rw 2 W B go1 n1

/-- While a hand is filled. -/
structure La (w W : World) (B hb p : Nat) (so : Option Addr) (sn sc : Nat) (ao : Option Addr) (an ac : Nat) (sh at' : List Int) (go0 go1 : Option Addr) (ho0 : Option Addr) (m0 : Nat) (ho1 : Option Addr) (m1 : Nat) : Prop where
  hbox : W.heap[hb]? = some (.cells #[.slice ho0 m0 m0, .slice ho1 m1 m1] 28 (0, 0))
  base : B ≤ hb
  abox : W.heap[p]? = some (.cells #[.slice so sn sc, .slice ao an ac] 30 (0, 0))
  rbox : W.heap[p + 1]? = some (.cells #[.slice none 0 0, .slice none 0 0] 30 (0, 0))
  s : Rd W so sn sh
  a : Rd W ao an at'
  ls : 0 < sn → ∀ b off, so = some ⟨b, off, none⟩ → b < B
  la : 0 < an → ∀ b off, ao = some ⟨b, off, none⟩ → b < B
  kp : Kp w W (fun b => b = hb ∨ some b = ownB go0 ∨ some b = ownB go1)
  o0 : ho0 = none ∨ ho0 = go0
  o1 : ho1 = none ∨ ho1 = go1
  szB : B ≤ w.heap.size
  pw : p = w.heap.size

section

variable {w W W' : World} {B hb p : Nat} {so : Option Addr} {sn sc : Nat} {ao : Option Addr} {an ac : Nat} {sh at' : List Int} {go0 go1 ho0 : Option Addr} {m0 : Nat} {ho1 : Option Addr} {m1 : Nat}

theorem Rd.low0 {ao : Option Addr} {n : Nat} {zs : List Int} (h : Rd W ao n zs) (hlb : 0 < n → ∀ b off, ao = some ⟨b, off, none⟩ → b < B) (hb : ∀ k, k < B → W'.heap[k]? = W.heap[k]?) (hs : W.heap.size ≤ W'.heap.size) : Rd W' ao n zs := by
  refine ⟨h.len, h.room, h.num, fun hn => ?_⟩
  obtain ⟨b, off, e, hb', hc⟩ := h.cells hn
  exact ⟨b, off, e, Nat.lt_of_lt_of_le hb' hs, fun k hk => (World.cell?_of_block (a := ⟨b, off + k, none⟩) (hb b (hlb hn b off e))).trans (hc k hk)⟩

/-- What changes one row of numbers among the hand's own changes nothing else. -/
theorem La.grow (h : La w W B hb p so sn sc ao an ac sh at' go0 go1 ho0 m0 ho1 m1) {row : Option Nat} (hg : W.grownBy W' row) (hrow : ∀ b, row = some b → B ≤ b ∧ b ≠ hb ∧ b ≠ p ∧ b ≠ p + 1 ∧ (b < w.heap.size → some b = ownB go0 ∨ some b = ownB go1)) : La w W' B hb p so sn sc ao an ac sh at' go0 go1 ho0 m0 ho1 m1 := by
  have l0 := (Array.getElem?_eq_some_iff.1 h.hbox).1
  have l1 := (Array.getElem?_eq_some_iff.1 h.abox).1
  have l2 := (Array.getElem?_eq_some_iff.1 h.rbox).1
  have hsz := h.kp.size
  have hB := h.szB
  refine ⟨(hg.block hb l0 (fun e => (hrow hb e.symm).2.1 rfl)).trans h.hbox, h.base, (hg.block p l1 (fun e => (hrow p e.symm).2.2.1 rfl)).trans h.abox, (hg.block _ l2 (fun e => (hrow _ e.symm).2.2.2.1 rfl)).trans h.rbox, ?_, ?_, h.ls, h.la, ?_, h.o0, h.o1, h.szB, h.pw⟩
  · exact h.s.low0 h.ls (fun k hk => hg.block k (by omega) (fun e => by have := (hrow k e.symm).1; omega)) hg.size
  · exact h.a.low0 h.la (fun k hk => hg.block k (by omega) (fun e => by have := (hrow k e.symm).1; omega)) hg.size
  · refine h.kp.trans (Kp.of hg) (fun j hj e => ?_)
    rcases (hrow j e.symm).2.2.2.2 hj with e | e
    · exact .inr (.inl e)
    · exact .inr (.inr e)
/-- New memory changes nothing. -/
theorem La.below (h : La w W B hb p so sn sc ao an ac sh at' go0 go1 ho0 m0 ho1 m1) (k : Below W.heap.size W W') : La w W' B hb p so sn sc ao an ac sh at' go0 go1 ho0 m0 ho1 m1 :=
  h.grow (row := none) ⟨k.os, k.tape, k.output, k.size, fun j hj _ => k.block j hj⟩ (fun b e => by cases e)
theorem La.drew (h : La w W B hb p so sn sc ao an ac sh at' go0 go1 ho0 m0 ho1 m1) : La w W.drew B hb p so sn sc ao an ac sh at' go0 go1 ho0 m0 ho1 m1 := h.below (Below.refl _ W).drew
theorem La.alloc (h : La w W B hb p so sn sc ao an ac sh at' go0 go1 ho0 m0 ho1 m1) (o : Obj) : La w (W.alloc o) B hb p so sn sc ao an ac sh at' go0 go1 ho0 m0 ho1 m1 := h.below (box_below W o)
/-- All its cells, told. -/
theorem La.all (h : La w W B hb p so sn sc ao an ac sh at' go0 go1 ho0 m0 ho1 m1) : W.cell? ⟨hb, 0, none⟩ = some (.slice ho0 m0 m0) ∧ W.cell? ⟨hb, 1, none⟩ = some (.slice ho1 m1 m1) ∧ W.cell? ⟨p, 0, none⟩ = some (.slice so sn sc) ∧ W.cell? ⟨p, 1, none⟩ = some (.slice ao an ac) ∧ La w W B hb p so sn sc ao an ac sh at' go0 go1 ho0 m0 ho1 m1 := by
  obtain ⟨a1, a2, _, _⟩ := box2 h.hbox
  obtain ⟨b1, b2, _, _⟩ := box2 h.abox
  exact ⟨a1, a2, b1, b2, h⟩
end

/-- Rows of different kinds of numbers lie in different blocks. -/
theorem kinds {W : World} {g : Nat} {c d : Array Value} {e f : TypeId} (h : W.heap[g]? = some (.cells c e (0, 0))) (k : W.heap[g]? = some (.cells d f (0, 0))) : e = f := by
  rw [h] at k; cases k; rfl
theorem Ft.rowH {e : TypeId} {w : World} {B g : Nat} {n cap : Nat} {zs : List Int} (h : Ft e w B (some ⟨g, 0, none⟩) n cap zs) : ∃ cur, w.heap[g]? = some (.cells cur e (0, 0)) ∧ cur.size = cap ∧ cap ≤ 9223372036854775807 ∧ n ≤ cap ∧ ∀ k, k < n → cur[k]? = some (.int .i64 (nth zs k)) := by
  have hl := h.rd.len
  rcases h.own.2 with ⟨e', _⟩ | ⟨g', c', cur, e', hB, hg, hnc, hcm, hcs, ht⟩
  · cases e'
  · cases e'
    refine ⟨cur, hg, by omega, by unfold maxLen at hcm; omega, hnc, fun k hk => ?_⟩
    have h2 : (cur.toList.take (n * 1))[k]? = some (.int .i64 (nth zs k)) := by
      rw [ht]; exact nth_map (by omega)
    rw [List.getElem?_take_of_lt (by omega)] at h2
    simpa using h2
theorem Ft.form {e : TypeId} {w : World} {B : Nat} {ao : Option Addr} {n cap : Nat} {zs : List Int} (h : Ft e w B ao n cap zs) (h0 : 0 < n) : ∃ g, ao = some ⟨g, 0, none⟩ ∧ B ≤ g ∧ g < w.heap.size := by
  rcases h.own.2 with ⟨e1, h1⟩ | ⟨g, c, cur, e1, hB, hg, _⟩
  · omega
  · cases e1; exact ⟨g, rfl, hB, (Array.getElem?_eq_some_iff.1 hg).1⟩
theorem Rw.below {e : TypeId} {W W' : World} {B : Nat} {go : Option Addr} {n : Nat} (h : Rw e W B go n) (k : Below W.heap.size W W') : Rw e W' B go n := h.same fun g e => k.block g (h.at g e).2.1
/-- A row of one kind stays where a row of another kind changes. -/
theorem Rw.other {e f : TypeId} {W W' : World} {B : Nat} {go : Option Addr} {n : Nat} (h : Rw e W B go n) {row : Option Nat} (hg : W.grownBy W' row) (hr : ∀ g, row = some g → ∃ cur, W.heap[g]? = some (.cells cur f (0, 0))) (hef : e ≠ f) : Rw e W' B go n := by
  refine h.same fun g hgo => hg.block g (h.at g hgo).2.1 (fun c => ?_)
  obtain ⟨_, _, cur, c1⟩ := h.at g hgo
  obtain ⟨cur', c2⟩ := hr g c.symm
  exact hef (kinds c1 c2)
theorem Ft.other {e f : TypeId} {W W' : World} {B : Nat} {go : Option Addr} {n c : Nat} {zs : List Int} (h : Ft e W B go n c zs) {row : Option Nat} (hg : W.grownBy W' row) (hr : ∀ g, row = some g → ∃ cur, W.heap[g]? = some (.cells cur f (0, 0))) (hef : e ≠ f) : Ft e W' B go n c zs := by
  refine h.keep1 hg (fun b off hgo hc => ?_)
  obtain ⟨cur', c2⟩ := hr b hc.symm
  rcases h.own.2 with ⟨e', _⟩ | ⟨g', c', cur, e', hB, hg', _⟩
  · cases e'; cases hgo
  · cases e'; cases hgo
    exact hef (kinds hg' c2)
theorem Ft.rows {e : TypeId} {W : World} {B : Nat} {go : Option Addr} {n c : Nat} {zs : List Int} (h : Ft e W B go n c zs) : ∀ g, ownB go = some g → B ≤ g ∧ ∃ cur, W.heap[g]? = some (.cells cur e (0, 0)) := by
  intro g hg
  rcases h.own.2 with ⟨e', _⟩ | ⟨g', c', cur, e', hB, hg', _⟩
  · cases e'; cases hg
  · cases e'; cases hg; exact ⟨hB, cur, hg'⟩
end Go.Proofs.YtmepcenbaohcoaaGreat
