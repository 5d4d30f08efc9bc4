
/- ShapeFresh: any call; how much is handed in; more of lists of lists. -/

import Derived.Test.YtdeglhifemmknaaLG

namespace Go.Proofs.Ytdeglhifemmknaa

open Go.RowKit

set_option linter.unusedVariables false

theorem lists_any (K N : Int) (so ro lo : Option Addr) (sn sc rn rc n lc : Nat) (S T : List Int) (Z : List (List Int)) (w : World) (hS : Rd w so sn S) (sS : Sl so sn sc) (hT : Rd w ro rn T) (sT : Sl ro rn rc) (hZ : Rs w lo n Z) (N1 : -9223372036854775808 ≤ N) (N2 : N ≤ 9223372036854775807) :
    Calls Try.prog 7 #[.agg #[.int .i64 K, .slice so sn sc, .slice ro rn rc, .int .i64 N, .slice lo n lc]] w fun e w' => ∃ lo' mo' m lc' mc' f gs ms, e = .returned (.tuple #[.slice lo' m lc', .slice mo' m mc', .bool true]) ∧ Ans w w' lo' mo' m lc' mc' f gs ms := by
  by_cases h : K = 8
  · subst h
    exact lists_all N so ro lo sn sc rn rc n lc S T Z w hS sS hT sT hZ N1 N2
  · exact lists_go K N so ro lo sn sc rn rc n lc S T Z w hS sS hT sT hZ N1 N2 (by simpa using h)

theorem over_any (wb : Nat) (x n : Int) (w : World) (hc : w.cell? ⟨wb, 0, none⟩ = some (.int .i64 x)) (hz : w.frozen? ⟨wb, 0, none⟩ = false) (h1 : 0 ≤ x) (h2 : x ≤ 4194304) (h3 : 0 ≤ n) (h4 : n ≤ 1000000000000000) :
    Calls Try.prog 5 #[.pointer (some ⟨wb, 0, none⟩), .int .i64 n] w fun e w' => e = .returned (.bool (decide (4194304 < x + 100 + n))) ∧ w' = w.setCell ⟨wb, 0, none⟩ (.int .i64 (x + 100 + n)) := by
  have hc1 : (w.setCell ⟨wb, 0, none⟩ (.int .i64 (x + 100 + n))).cell? ⟨wb, 0, none⟩ = some (.int .i64 (x + 100 + n)) := World.cell?_setCell_same' _ _ _ (by rw [hc]; rfl)
  go_enter Try.func5, Try.ntmps5
  go_wp2
  go_ret
  exact ⟨rfl, rfl⟩

/-- How much a call is handed: what comes behind a bound is not counted. -/
def szK (zss : List (List Int)) (s : Nat) : Nat → Nat
  | 0 => s
  | k + 1 => if 4194304 ≤ szK zss s k then szK zss s k else szK zss s k + 10 + (row zss k).length
theorem szK_stay {zss : List (List Int)} {s k : Nat} (h : 4194304 ≤ szK zss s k) : ∀ m, szK zss s (k + m) = szK zss s k
  | 0 => rfl
  | m + 1 => by
    show (if 4194304 ≤ szK zss s (k + m) then szK zss s (k + m) else _) = _
    rw [szK_stay h m, if_pos h]
theorem szK_small {zss : List (List Int)} {s : Nat} : ∀ k, szK zss s k < 4194304 → s ≤ szK zss s k ∧ k ≤ szK zss s k ∧ ∀ j, j < k → (row zss j).length ≤ szK zss s k
  | 0, _ => ⟨Nat.le_refl _, Nat.zero_le _, fun j hj => by omega⟩
  | k + 1, h => by
    have e : szK zss s (k + 1) = if 4194304 ≤ szK zss s k then szK zss s k else szK zss s k + 10 + (row zss k).length := rfl
    by_cases c : 4194304 ≤ szK zss s k
    · rw [if_pos c] at e; omega
    · rw [if_neg c] at e
      obtain ⟨h1, h2, h3⟩ := szK_small (zss := zss) (s := s) k (by omega)
      refine ⟨by omega, by omega, fun j hj => ?_⟩
      by_cases ej : j = k
      · subst ej; omega
      · have := h3 j (by omega); omega

set_option maxHeartbeats 2000000 in
theorem opsz_any (K N : Int) (so ro mo : Option Addr) (sn sc tn tc mn mc : Nat) (zs ys : List Int) (zss : List (List Int)) (w : World) (hs : Rd w so sn zs) (ht : Rd w ro tn ys) (hm : Rs w mo mn zss) :
    Calls Try.prog 6 #[.agg #[.int .i64 K, .slice so sn sc, .slice ro tn tc, .int .i64 N, .slice mo mn mc]] w fun e w' => e = .returned (.int .i64 ((szK zss (sn + tn) mn : Nat) : Int)) ∧ Below w.heap.size w w' ∧ szK zss (sn + tn) mn ≤ 100000000000000 := by
  have hsr := hs.room
  have htr := ht.room
  have hmr := hm.room
  have HL : Hid (zss.length = mn) := hm.len
  go_enter Try.func6, Try.ntmps6
  go_wp2
  have cm : (w.alloc (.cells #[.int .i64 K, .slice so sn sc, .slice ro tn tc, .int .i64 N, .slice mo mn mc] 31)).cell? ⟨w.heap.size, 4, none⟩ = some (.slice mo mn mc) := by
    have hb := World.alloc_heap_new w (.cells #[.int .i64 K, .slice so sn sc, .slice ro tn tc, .int .i64 N, .slice mo mn mc] 31)
    exact (cell_of_row _ _ 4 _ 31 (0, 0) hb).trans rfl
  have hm1 := hm.below ((Below.refl _ w).alloc (Nat.le_refl _) (.cells #[.int .i64 K, .slice so sn sc, .slice ro tn tc, .int .i64 N, .slice mo mn mc] 31)) (Nat.le_refl _)
  have hbw : Below w.heap.size w (w.alloc (.cells #[.int .i64 K, .slice so sn sc, .slice ro tn tc, .int .i64 N, .slice mo mn mc] 31)) := (Below.refl _ w).alloc (Nat.le_refl _) _
  go_loop [3, 4] (fun v i => ∃ (k : Nat) (x : Int), k ≤ mn ∧ i = .int .i64 (k : Nat) ∧ v = .int .i64 x ∧ Hid (x = (szK zss (sn + tn) k : Nat)) ∧ 0 ≤ x ∧ x ≤ 40000000000000) (fun _ i => mn - (intOf i).toNat)
  case atStart => exact ⟨0, _, Nat.zero_le _, rfl, rfl, by show _ = _; simp [szK], by omega, by omega⟩
  case round =>
    obtain ⟨k, x, hk, rfl, rfl, HX, hx0, hbd⟩ := hrel
    by_cases hlt : k < mn
    · by_cases hsm : x < 4194304
      · obtain ⟨b, off, rfl, hb, hcs⟩ := hm1.cells (by omega)
        obtain ⟨A, L, C, c1, r1, s1⟩ := hcs k hlt
        have r1m := r1.room
        have hll : (row zss k).length = L := r1.len
        have HS : Hid (szK zss (sn + tn) (k + 1) = szK zss (sn + tn) k + 10 + L) := by
          show _ = _
          have := HX.out
          show (if 4194304 ≤ szK zss (sn + tn) k then _ else _) = _
          rw [if_neg (by omega), hll]
        clear hcs r1 s1 hll
        go_wp2
        go_round
        case rel => exact ⟨k + 1, _, by omega, by go_num, rfl, by show _ = _; rw [HS.out, HX.out]; omega, by omega, by omega⟩
        case measure => simp [intOf]; omega
      · go_wp2
        go_ret
        have e1 : szK zss (sn + tn) mn = szK zss (sn + tn) k := by
          have := szK_stay (zss := zss) (s := sn + tn) (k := k) (by have := HX.out; omega) (mn - k)
          rwa [show k + (mn - k) = mn by omega] at this
        refine ⟨ret_int (by rw [e1]; exact HX.out), hbw, by have := HX.out; omega⟩
    · obtain rfl : mn = k := by omega
      go_wp2
      go_ret
      exact ⟨ret_int HX.out, hbw, by have := HX.out; omega⟩

/-- An entry of the script. -/
structure OpQ where
  K : Int
  so : Option Addr
  sn : Nat
  sc : Nat
  ro : Option Addr
  rn : Nat
  rc : Nat
  N : Int
  lo : Option Addr
  n : Nat
  cap : Nat
/-- Its lists are read. -/
def OkQ (w : World) (q : OpQ) : Prop := (∃ S, Rd w q.so q.sn S) ∧ Sl q.so q.sn q.sc ∧ (∃ A, Rd w q.ro q.rn A) ∧ Sl q.ro q.rn q.rc ∧ (∃ Z, Rs w q.lo q.n Z) ∧ Sl q.lo q.n q.cap ∧ -9223372036854775808 ≤ q.N ∧ q.N ≤ 9223372036854775807
theorem rd_low {w : World} {ao : Option Addr} {n : Nat} {zs : List Int} (h : Rd w ao n zs) : 0 < n → ∀ b off, ao = some ⟨b, off, none⟩ → b < w.heap.size := fun h0 b' off' e => by
  obtain ⟨b2, off2, e2, hb2, _⟩ := h.cells h0
  rw [e2] at e
  injection e with e
  injection e with e3
  omega

theorem Lg.congr {V : World} {M : Nat} {go : Option Addr} {k gc : Nat} {f f' : Nat → List Int} {gs : List Value} (h : Lg V M go k gc f gs) (hf : ∀ j, j < k → f j = f' j) : Lg V M go k gc f' gs :=
  ⟨h.own, fun j hj => by
    obtain ⟨a, n, c, h1, h2⟩ := h.rows j hj
    exact ⟨a, n, c, h1, hf j hj ▸ h2⟩, h.apart⟩
/-- A list more, of a row that is none of these. -/
theorem Lg.push3 {V1 A W9 : World} {M : Nat} {go go' : Option Addr} {k gc gc' : Nat} {f : Nat → List Int} {gs : List Value} {a : Option Addr} {n c : Nat} {zs : List Int} (h : Lg V1 M go k gc f gs) (hne : ∀ (j : Nat) (v : Value) (g : Nat), gs[j]? = some v → v.ownBlock = some g → (Value.slice a n c).ownBlock ≠ some g) (hx : Fr V1 M a n c zs) (bA : Below V1.heap.size V1 A)
    (r9 : W9.ownsRow M 28 1 (.slice go' (k + 1) gc') (k + 1) (gs ++ [.slice a n c])) (g9 : A.grownBy W9 (Value.slice go k gc).ownBlock) : Lg W9 M go' (k + 1) gc' (fun j => if j = k then zs else f j) (gs ++ [.slice a n c]) := by
  have hA := h.below bA
  have xA := hx.below bA (Nat.le_refl _)
  have k9 := Chg.of_grown g9
  have nt : ∀ {v : Value} {n : Nat} {xs : List Value} {B : Nat}, A.ownsRow B 3 1 v n xs → ∀ g, v.ownBlock = some g → ¬ (Value.slice go k gc).ownBlock = some g := by
    intro v n xs B ho g hv hh
    obtain ⟨cs, hc⟩ := ownB ho hv
    obtain ⟨cs', hc'⟩ := ownB hA.own hh
    exact absurd (kindB hc hc') (by decide)
  have hl := h.len
  refine ⟨r9, fun j hj => ?_, fun i j v u g hi hj hv hu => ?_⟩
  · by_cases e : j = k
    · subst e
      exact ⟨a, n, c, by rw [← hl]; simp, by rw [if_pos rfl]; exact xA.chg k9 fun g hg => nt xA.own g hg⟩
    · obtain ⟨a', n', c', h1, h2⟩ := hA.rows j (by omega)
      exact ⟨a', n', c', by rw [List.getElem?_append_left (by omega)]; exact h1, by rw [if_neg e]; exact h2.chg k9 fun g hg => nt h2.own g hg⟩
  · rcases last_of hi with ⟨hi', _⟩ | ⟨e1, e2⟩ <;> rcases last_of hj with ⟨hj', _⟩ | ⟨e3, e4⟩
    · exact h.apart i j v u g hi' hj' hv hu
    · subst e4; exact absurd hu (hne i v g hi' hv)
    · subst e2; exact absurd hv (hne j u g hj' hu)
    · omega
theorem wpList_pushB {t e : TypeId} (hund : Try.prog.underlying t = some (.slice e)) (hinfo : (Try.prog.info? e).map (fun i => (i.zero, i.size, i.bytes)) = some (some (.slice none 0 0), 1, 24)) {w : World} {ops : Array Oper} {rest : List Oper} {o : Oper} {a : Act} {Q : Exit → Act → World → Prop} (hgd : o.guard = none) (s x : Operand)
    (ho : o.op = .call { callee := .builtin .append, args := #[s, x], argTypes := #[t, t] }) (B : Nat) (hB : B ≤ w.heap.size) (go : Option Addr) (k gc : Nat) (gs : List Value) (hs : a.eval s = .slice go k gc) (hown : w.ownsRow B e 1 (.slice go k gc) k gs) (g : Nat) (hx : a.eval x = .slice (some ⟨g, 0, none⟩) 1 1) (y : Value) (hc : w.cell? ⟨g, 0, none⟩ = some y) (hy : y.oneCell' = true) (hn : (k + 1) * 24 ≤ 140737488355328)
    (hK : ∀ go' gc' w', w'.ownsRow B e 1 (.slice go' (k + 1) gc') (k + 1) (gs ++ [y]) → w.grownBy w' (Value.slice go k gc).ownBlock → ((Value.slice go' (k + 1) gc').ownBlock = (Value.slice go k gc).ownBlock ∨ (Value.slice go' (k + 1) gc').ownBlock = some w.heap.size) → wpList Try.prog ops Q rest (a.put o.dst (.slice go' (k + 1) gc')) w') : wpList Try.prog ops Q (o :: rest) a w := by
  obtain ⟨i0, hi, hz0, hz1, hz2⟩ := info_parts hinfo
  obtain ⟨v', w', hrun, h1, h2, _, h4⟩ := run_append_own_at (P := Try.prog) w B t o.type e i0 (.slice none 0 0) 1 24 hund hi hz0 hz1 hz2 rfl (by decide) _ k gs hown ⟨g, 0, none⟩ 1 1 [y] rfl
    (fun j u hj => by
      match j, hj with
      | 0, hj => simp at hj; subst hj; simpa [Addr.add] using hc) (fun u hu => by simp at hu; subst hu; exact hy) (by unfold maxLen; omega) (by omega) hB
  obtain ⟨go', gc', rfl⟩ := own_len h1
  exact wpList_append_run hgd s x t ho _ (by rw [hs, hx]; exact hrun) (hK _ _ _ h1 h2 h4)
end Go.Proofs.Ytdeglhifemmknaa
