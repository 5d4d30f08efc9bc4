
/- Contracts: pieces of items in a row. -/

import Derived.Test.YtjllmfahmlfljaaC4

namespace Go.Proofs.Ytjllmfahmlfljaa

open Go.RowKit

set_option linter.unusedVariables false

/-- The cells of the first k pieces. -/
def pcs (p : Nat → Int × Int) (k : Nat) : List Value := (List.range k).flatMap fun j => [.int .i64 (p j).1, .int .i64 (p j).2]
theorem pcs_succ (p : Nat → Int × Int) (k : Nat) : pcs p (k + 1) = pcs p k ++ [.int .i64 (p k).1, .int .i64 (p k).2] := by
  unfold pcs; rw [List.range_succ, List.flatMap_append]; simp
theorem pcs_len (p : Nat → Int × Int) : ∀ k, (pcs p k).length = k * 2
  | 0 => rfl
  | k + 1 => by rw [pcs_succ, List.length_append, pcs_len p k]; simp; omega
theorem pcs_at (p : Nat → Int × Int) : ∀ k j, j < k → (pcs p k)[j * 2]? = some (.int .i64 (p j).1) ∧ (pcs p k)[j * 2 + 1]? = some (.int .i64 (p j).2)
  | 0, j, h => by omega
  | k + 1, j, h => by
    rw [pcs_succ]
    by_cases c : j < k
    · obtain ⟨h1, h2⟩ := pcs_at p k j c
      rw [List.getElem?_append_left (by rw [pcs_len]; omega), List.getElem?_append_left (by rw [pcs_len]; omega)]
      exact ⟨h1, h2⟩
    · obtain rfl : j = k := by omega
      rw [List.getElem?_append_right (by rw [pcs_len]; omega), List.getElem?_append_right (by rw [pcs_len]; omega), pcs_len]
      simp
/-- A list of pieces of a call's own. -/
structure Pf (w : World) (B : Nat) (ao : Option Addr) (k cap : Nat) (p : Nat → Int × Int) : Prop where
  own : w.ownsRow B 57 2 (.slice ao k cap) k (pcs p k)
theorem Pf.nil (w : World) (B : Nat) (p : Nat → Int × Int) : Pf w B none 0 0 p := ⟨World.ownsRow_nil _ _ _ _⟩
theorem Pf.below {B B' : Nat} {w w' : World} {ao : Option Addr} {k cap : Nat} {p : Nat → Int × Int} (h : Pf w B ao k cap p) (hb : Below B' w w') (hB : w.heap.size ≤ B') : Pf w' B ao k cap p := by
  refine ⟨h.own.1, ?_⟩
  rcases h.own.2 with h0 | ⟨g, c, cur, e, hB2, hg, r⟩
  · exact .inl h0
  · exact .inr ⟨g, c, cur, e, hB2, by rw [hb.block g (Nat.lt_of_lt_of_le (Array.getElem?_eq_some_iff.1 hg).1 hB)]; exact hg, r⟩
theorem Pf.mono {w : World} {B B' : Nat} {ao : Option Addr} {k cap : Nat} {p : Nat → Int × Int} (h : Pf w B ao k cap p) (hb : B' ≤ B) : Pf w B' ao k cap p := by
  refine ⟨h.own.1, ?_⟩
  rcases h.own.2 with h0 | ⟨g, c, cur, e, hB, r⟩
  · exact .inl h0
  · exact .inr ⟨g, c, cur, e, Nat.le_trans hb hB, r⟩
theorem Pf.cells {w : World} {B : Nat} {ao : Option Addr} {k cap : Nat} {p : Nat → Int × Int} (h : Pf w B ao k cap p) (h0 : 0 < k) :
    ∃ g, ao = some ⟨g, 0, none⟩ ∧ ∀ j, j < k → w.cell? ⟨g, j * 2, none⟩ = some (.int .i64 (p j).1) ∧ w.cell? ⟨g, j * 2 + 1, none⟩ = some (.int .i64 (p j).2) := by
  rcases h.own.2 with ⟨e, hk⟩ | ⟨g, c, cur, e, hB, hg, hnc, hcm, hcs, ht⟩
  · omega
  · cases e
    refine ⟨g, rfl, fun j hj => ?_⟩
    obtain ⟨h1, h2⟩ := pcs_at p k j hj
    rw [← ht] at h1 h2
    rw [List.getElem?_take_of_lt (by omega)] at h1
    rw [List.getElem?_take_of_lt (by omega)] at h2
    exact ⟨(cell_of_row w g _ _ _ (0, 0) hg).trans (by simpa using h1), (cell_of_row w g _ _ _ (0, 0) hg).trans (by simpa using h2)⟩
theorem infoP : (Try.prog.info? 57).map (fun i => (i.zero, i.size, i.bytes)) = some (some (.agg #[.int .i64 0, .int .i64 0]), 2, 16) := by kernel_rfl

/-- One piece more. -/
theorem wpList_joinP {w : World} {ops : Array Oper} {rest : List Oper} {o : Oper} {a : Act} {Q : Exit → Act → World → Prop} (hgd : o.guard = none) (s x : Operand)
    (ho : o.op = .call { callee := .builtin .append, args := #[s, x], argTypes := #[53, 53] }) (B vb : Nat) (ao : Option Addr) (k cap : Nat) (p : Nat → Int × Int) (hs : a.eval s = .slice ao k cap) (hx : a.eval x = .slice (some ⟨vb, 0, none⟩) 1 1)
    (h : Pf w B ao k cap p) (hv : w.heap[vb]? = some (.cells #[.int .i64 (p k).1, .int .i64 (p k).2] 57 (0, 0))) (hk : k ≤ 5000) (hB : B ≤ w.heap.size)
    (hK : ∀ co c w', Pf w' B co (k + 1) c p → Below B w w' → wpList Try.prog ops Q rest (a.put o.dst (.slice co (k + 1) c)) w') : wpList Try.prog ops Q (o :: rest) a w := by
  obtain ⟨i0, hi, hz0, hz1, hz2⟩ := info_parts infoP
  obtain ⟨x0, x1, _, _⟩ := box2 hv
  refine wpList_append_own w hgd s x 53 ho B 57 i0 (.agg #[.int .i64 0, .int .i64 0]) 2 16 Try.underlying53 hi hz0 hz1 hz2 (by simp [Value.cells]) (by decide) (.slice ao k cap) k _ hs h.own ⟨vb, 0, none⟩ 1 1 [.int .i64 (p k).1, .int .i64 (p k).2] hx rfl
    (fun j u hu => ?_) (fun u hu => ?_) (by unfold maxLen; omega) (by omega) hB (fun v' w' ho' hg' _ => ?_)
  · rw [add_at, Nat.zero_add]
    match j with
    | 0 => cases hu; exact x0
    | 1 => cases hu; exact x1
    | j + 2 => simp at hu
  · simp at hu
    rcases hu with rfl | rfl <;> rfl
  · rw [← pcs_succ] at ho'
    have hb : Below B w w' := (Below.refl _ _).grown hg' hB (fun k e => (h.own.lt k e).1)
    rcases ho'.2 with ⟨e, h0⟩ | ⟨g, c, cur, e, _⟩
    · omega
    · subst e
      exact hK _ _ _ ⟨ho'⟩ hb

set_option maxHeartbeats 2000000 in
theorem windows_any (N : Nat) (n : Int) (w : World) (hN : N ≤ 4096) (h1 : 1 ≤ n) (h2 : n ≤ 9223372036854775807) :
    Calls Try.prog 90 #[.int .i64 (N : Nat), .int .i64 n] w fun e w' => ∃ ao c, e = .returned (.slice ao ((N : Int) - n + 1).toNat c) ∧ Pf w' w.heap.size ao ((N : Int) - n + 1).toNat c (fun j => ((j : Int), n)) ∧ Below w.heap.size w w' := by
  have ww : IntKind.i64.wrap ((N : Int) - n) = (N : Int) - n := wrapIn _ (by omega)
  have w2 : IntKind.i64.wrap ((N : Int) - n + 1) = (N : Int) - n + 1 := wrapIn _ (by omega)
  obtain ⟨M, hM⟩ : ∃ M : Int, M = (N : Int) - n + 1 := ⟨_, rfl⟩
  rw [← hM] at w2 ⊢
  have hM4 : M ≤ 4096 := by omega
  have HM : Hid ((N : Int) - n + 1 = M) := hM.symm
  go_enter Try.func90, Try.ntmps90
  go_wp2
  rw [← hM]
  clear hM
  go_loopw [5, 11] (fun s i wr => ∃ (k : Nat) (ao : Option Addr) (c : Nat), k ≤ M.toNat ∧ s = .slice ao k c ∧ i = .int .i64 (k : Nat) ∧ Pf wr w.heap.size ao k c (fun j => ((j : Int), n)) ∧ Below w.heap.size w wr) (fun _ i _ => M.toNat - (intOf i).toNat)
  case atStart => exact ⟨0, none, 0, Nat.zero_le _, rfl, rfl, Pf.nil _ _ _, Below.refl _ _⟩
  case round =>
    obtain ⟨k, ao, c, hk, rfl, rfl, P, hb⟩ := hrel
    by_cases hlt : k < M.toNat
    · have t1 : decide ((k : Int) < M) = true := by simp; omega
      have P1 := P.below (box_below wr (.cells #[.int .i64 (k : Int), .int .i64 n] 57)) (Nat.le_refl _)
      have hv := allocNew wr (.cells #[.int .i64 (k : Int), .int .i64 n] 57)
      have hsz := hb.size
      go_wp2_with (at_builtin; refine wpList_joinP rfl _ _ rfl w.heap.size wr.heap.size ao k c (fun j => ((j : Int), n)) rfl rfl P1 hv (by omega) (by simp; omega) ?_; intro co c2 w3 P3 b3)
      go_roundw
      case rel => exact ⟨k + 1, co, c2, by omega, rfl, by go_num, P3, (hb.alloc hsz _).trans b3⟩
      case measure => simp [intOf]; omega
    · have t1 : decide ((k : Int) < M) = false := by simp; omega
      obtain rfl : k = M.toNat := by omega
      go_wp2
      go_ret
      exact ⟨_, _, rfl, P, hb⟩
end Go.Proofs.Ytjllmfahmlfljaa
