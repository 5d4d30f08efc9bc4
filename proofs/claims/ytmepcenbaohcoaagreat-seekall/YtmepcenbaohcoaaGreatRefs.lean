
/- Contracts of the document's own May, Count, Size, Place and Rank. -/

import Derived.WalkKit

import Derived.Deep.QuietTactic

import Derived.BigQuiet

import Derived.Laws.OwnMore

import Derived.Test.YtmepcenbaohcoaaGreatProg

namespace Go.Proofs.YtmepcenbaohcoaaGreat

open Go.RowKit

set_option linter.unusedVariables false

/-- The k-th number of a list. -/
def nth (zs : List Int) (k : Nat) : Int := zs.getD k 0

theorem nth_lt {zs : List Int} {k : Nat} (h : k < zs.length) : nth zs k = zs[k] := by
  simp [nth, h]
theorem nth_map {zs : List Int} {k : Nat} (h : k < zs.length) : (zs.map (Value.int .i64))[k]? = some (.int .i64 (nth zs k)) := by
  simp [nth, h]
theorem ext_nth {a b : List Int} (hl : a.length = b.length) (h : ∀ k, k < a.length → nth a k = nth b k) : a = b := by
  apply List.ext_getElem hl
  intro i h1 h2
  have := h i h1
  rwa [nth_lt h1, nth_lt h2] at this
theorem nth_mem {zs : List Int} {k : Nat} (h : k < zs.length) : nth zs k ∈ zs := by
  rw [nth_lt h]; exact List.getElem_mem h
theorem take_nth {zs : List Int} {k : Nat} (h : k < zs.length) : zs.take (k + 1) = zs.take k ++ [nth zs k] := by
  rw [List.take_succ_eq_append_getElem h, nth_lt h]
theorem nth_take {zs : List Int} {k m : Nat} (h : k < m) : nth (zs.take m) k = nth zs k := by
  simp [nth, h]
theorem nth_drop {zs : List Int} {k m : Nat} : nth (zs.drop m) k = nth zs (m + k) := by
  simp [nth, List.getElem?_drop]

/-- A slice of n numbers reads as the list zs. -/
structure Rd (w : World) (ao : Option Addr) (n : Nat) (zs : List Int) : Prop where
  len : zs.length = n
  room : n * 8 ≤ 140737488351232
  num : ∀ k, k < n → -9223372036854775808 ≤ nth zs k ∧ nth zs k ≤ 9223372036854775807
  cells : 0 < n → ∃ b off, ao = some ⟨b, off, none⟩ ∧ b < w.heap.size ∧ ∀ k, k < n → w.cell? ⟨b, off + k, none⟩ = some (.int .i64 (nth zs k))

theorem Rd.below {B : Nat} {w w' : World} {ao : Option Addr} {n : Nat} {zs : List Int} (h : Rd w ao n zs) (hb : Below B w w') (hB : w.heap.size ≤ B) : Rd w' ao n zs := by
  refine ⟨h.len, h.room, h.num, fun h0 => ?_⟩
  obtain ⟨b, off, e, hl, hc⟩ := h.cells h0
  refine ⟨b, off, e, Nat.lt_of_lt_of_le hl hb.size, fun k hk => ?_⟩
  rw [hb.cell (p := ⟨b, off + k, none⟩) (Nat.lt_of_lt_of_le hl hB)]
  exact hc k hk

theorem Rd.drewN {w : World} {ao : Option Addr} {n : Nat} {zs : List Int} (h : Rd w ao n zs) (m : Nat) : Rd (w.drewN m) ao n zs := by
  refine ⟨h.len, h.room, h.num, fun h0 => ?_⟩
  obtain ⟨b, off, e, hl, hc⟩ := h.cells h0
  exact ⟨b, off, e, by simpa using hl, fun k hk => by simpa using hc k hk⟩

theorem Rd.alloc {w : World} {ao : Option Addr} {n : Nat} {zs : List Int} (h : Rd w ao n zs) (o : Obj) : Rd (w.alloc o) ao n zs :=
  h.below ((Below.refl _ _).alloc (Nat.le_refl _) _) (Nat.le_refl _)

theorem Rd.nil (w : World) : Rd w none 0 [] := ⟨rfl, by omega, fun k hk => by omega, fun h => by omega⟩
theorem Rd.empty (w : World) (ao : Option Addr) : Rd w ao 0 [] := ⟨rfl, by omega, fun k hk => by omega, fun h => by omega⟩

theorem ret_int {k : IntKind} {a b : Int} (h : a = b) : Ending.returned (.int k a) = .returned (.int k b) := by rw [h]
theorem ret_bool {a b : Bool} (h : a = b) : Ending.returned (.bool a) = .returned (.bool b) := by rw [h]
theorem ret_two {k l : IntKind} {a b c d : Int} (h : a = b) (g : c = d) : Ending.returned (.tuple #[.int k a, .int l c]) = .returned (.tuple #[.int k b, .int l d]) := by rw [h, g]

/-- The product of the lengths that are not 0. -/
def pz (zs : List Int) : Int := zs.foldl (fun p z => if z = 0 then p else p * z) 1
/-- The product of all lengths. -/
def pr (zs : List Int) : Int := zs.foldl (fun p z => p * z) 1
/-- The answer of May. -/
def mayF (zs : List Int) : Int := if zs.any (fun z => decide (z < 0)) then 1 else if 8 < zs.length then 17 else if 4096 < pz zs then 17 else 0

theorem pz_snoc (l : List Int) (z : Int) : pz (l ++ [z]) = if z = 0 then pz l else pz l * z := by simp [pz, List.foldl_append]
theorem pr_snoc (l : List Int) (z : Int) : pr (l ++ [z]) = pr l * z := by simp [pr, List.foldl_append]
theorem pz_pos {l : List Int} : ∀ m, m ≤ l.length → (∀ k, k < m → 0 ≤ nth l k) → 1 ≤ pz (l.take m)
  | 0, _, _ => by simp [pz]
  | m + 1, hm, h => by
    rw [take_nth (by omega), pz_snoc]
    have ih := pz_pos (l := l) m (by omega) (fun k hk => h k (by omega))
    have hz := h m (by omega)
    split
    · exact ih
    · have : 1 ≤ nth l m := by omega
      have := Int.mul_le_mul ih this (by omega) (by omega)
      omega

theorem pz_up {l : List Int} {i : Nat} : ∀ m, i ≤ m → m ≤ l.length → (∀ k, k < m → 0 ≤ nth l k) → pz (l.take i) ≤ pz (l.take m)
  | 0, hi, _, _ => by obtain rfl : i = 0 := by omega
                      exact Int.le_refl _
  | m + 1, hi, hm, h => by
    by_cases e : i = m + 1
    · rw [e]; exact Int.le_refl _
    · have ih := pz_up (l := l) (i := i) m (by omega) (by omega) (fun k hk => h k (by omega))
      rw [take_nth (k := m) (by omega), pz_snoc]
      have hz := h m (by omega)
      have hp := pz_pos (l := l) m (by omega) (fun k hk => h k (by omega))
      split
      · exact ih
      · have : 1 ≤ nth l m := by omega
        have := Int.mul_le_mul_of_nonneg_left this (show 0 ≤ pz (l.take m) by omega)
        omega

theorem mayF_neg {zs : List Int} {k : Nat} (h : k < zs.length) (hz : nth zs k < 0) : mayF zs = 1 := by
  unfold mayF
  rw [if_pos]
  simp only [List.any_eq_true, decide_eq_true_eq]
  exact ⟨_, nth_mem h, hz⟩
theorem any_no {zs : List Int} (h : ∀ k, k < zs.length → 0 ≤ nth zs k) : (zs.any fun z => decide (z < 0)) = false := by
  simp only [List.any_eq_false, decide_eq_true_eq]
  intro x hx
  obtain ⟨i, hi, rfl⟩ := List.mem_iff_getElem.1 hx
  have := h i hi
  rw [nth_lt hi] at this
  omega
theorem mayF_long {zs : List Int} (h : ∀ k, k < zs.length → 0 ≤ nth zs k) (hl : 8 < zs.length) : mayF zs = 17 := by
  unfold mayF; rw [any_no h, if_pos hl]; rfl
theorem mayF_great {zs : List Int} {m : Nat} (h : ∀ k, k < zs.length → 0 ≤ nth zs k) (hm : m ≤ zs.length) (hp : 4096 < pz (zs.take m)) : mayF zs = 17 := by
  have := pz_up (l := zs) (i := m) zs.length hm (Nat.le_refl _) h
  rw [List.take_length] at this
  unfold mayF; rw [any_no h]
  simp only [Bool.false_eq_true, if_false]
  split
  · rfl
  · rw [if_pos (by omega)]
theorem mayF_ok {zs : List Int} (h : ∀ k, k < zs.length → 0 ≤ nth zs k) (hl : zs.length ≤ 8) (hp : pz zs ≤ 4096) : mayF zs = 0 := by
  unfold mayF; rw [any_no h, if_neg (by simp), if_neg (by omega), if_neg (by omega)]
theorem mayF_zero {zs : List Int} (h : mayF zs = 0) : (∀ k, k < zs.length → 0 ≤ nth zs k) ∧ zs.length ≤ 8 ∧ pz zs ≤ 4096 := by
  unfold mayF at h
  split at h
  · omega
  · rename_i h1
    split at h
    · omega
    · split at h
      · omega
      · refine ⟨fun k hk => ?_, by omega, by omega⟩
        by_cases hz : nth zs k < 0
        · exact absurd (by simp only [List.any_eq_true, decide_eq_true_eq]; exact ⟨_, nth_mem hk, hz⟩) h1
        · omega
end Go.Proofs.YtmepcenbaohcoaaGreat

namespace Go.Proofs.YtmepcenbaohcoaaGreat

open Go.RowKit

set_option linter.unusedVariables false

/-- An append by what it does when it is run. -/
theorem wpList_append_run {P : Program} {w w' : World} {ops : Array Oper} {rest : List Oper} {o : Oper} {a : Act} {Q : Exit → Act → World → Prop} (hgd : o.guard = none) (s x : Operand) (t : TypeId)
    (ho : o.op = .call { callee := .builtin .append, args := #[s, x], argTypes := #[t, t] }) (v : Value)
    (hrun : (Builtin.append_ #[t, t] o.type #[a.eval s, a.eval x]).run P w = .ok v w')
    (h : wpList P ops Q rest (a.put o.dst v) w') : wpList P ops Q (o :: rest) a w := by
  refine wpList_plain hgd fun K hK => ?_
  unfold Oper.wp
  simp [execOp, ho, resolve, invoke, builtin, hrun, Result.andThen]
  exact hK _ _ h

theorem add_at (b off n : Nat) : (⟨b, off, none⟩ : Addr).add n = ⟨b, off + n, none⟩ := by
  cases n with
  | zero => rfl
  | succ n => simp [Addr.add]

theorem Rd.news {w : World} {b off n : Nat} {zs : List Int} (hl : zs.length = n) (hc : ∀ k, k < n → w.cell? ⟨b, off + k, none⟩ = some (.int .i64 (nth zs k))) :
    ∀ j u, (zs.map (Value.int .i64))[j]? = some u → w.cell? ((⟨b, off, none⟩ : Addr).add j) = some u := by
  intro j u hu
  rw [add_at]
  have hj : j < n := by
    have := (List.getElem?_eq_some_iff.1 hu).1
    simpa [hl] using this
  rw [nth_map (by omega)] at hu
  rw [hc j hj, hu]

theorem ints_one (zs : List Int) : ∀ u ∈ zs.map (Value.int .i64), u.oneCell' = true := by
  intro u hu
  obtain ⟨z, _, rfl⟩ := List.mem_map.1 hu
  rfl

/-- Are two lists the same? -/
def eqB (a b : List Int) : Bool := decide (a = b)
theorem eqB_len {a b : List Int} (h : a.length ≠ b.length) : eqB a b = false := by
  simp only [eqB, decide_eq_false_iff_not]; intro e; exact h (by rw [e])
theorem eqB_no {a b : List Int} {k : Nat} (hk : k < a.length) (h : nth a k ≠ nth b k) : eqB a b = false := by
  simp only [eqB, decide_eq_false_iff_not]; intro e; exact h (by rw [e])
theorem eqB_yes {a b : List Int} (hl : a.length = b.length) (h : ∀ k, k < a.length → nth a k = nth b k) : eqB a b = true := by
  simp only [eqB, decide_eq_true_eq]; exact ext_nth hl h
theorem eqB_refl (a : List Int) : eqB a a = true := by simp [eqB]

set_option maxHeartbeats 1000000 in
theorem slicesEqual_any (ao bo : Option Addr) (n m cap cap' : Nat) (zs ys : List Int) (w : World) (h : Rd w ao n zs) (g : Rd w bo m ys) :
    Calls Tryz.prog 91 #[.slice ao n cap, .slice bo m cap'] w fun e w' => e = .returned (.bool (eqB zs ys)) ∧ ∃ q, w' = w.drewN q := by
  have hroom := h.room
  have groom := g.room
  have HL : Hid (zs.length = n) := h.len
  have GL : Hid (ys.length = m) := g.len
  by_cases hnm : n = m
  · subst hnm
    go_enter Tryz.func91, Tryz.ntmps91
    go_wp2
    go_loopw [13] (fun i wr => ∃ k : Nat, k ≤ n ∧ i = .int .i64 (k : Nat) ∧ (∀ j, j < k → nth zs j = nth ys j) ∧ ∃ q, wr = w.drewN q) (fun i _ => n - (intOf i).toNat)
    case atStart => exact ⟨0, Nat.zero_le _, rfl, fun j hj => by omega, 0, rfl⟩
    case round =>
      obtain ⟨k, hk, rfl, hz, q, rfl⟩ := hrel
      by_cases hlt : k < n
      · obtain ⟨b, off, rfl, hb, hc⟩ := h.cells (by omega)
        obtain ⟨b2, off2, rfl, hb2, hc2⟩ := g.cells (by omega)
        have c1 := hc k hlt
        have c2 := hc2 k hlt
        have HZ : Hid (∀ j, j < k → nth zs j = nth ys j) := hz
        clear hc hc2 hz h g
        by_cases he : nth zs k = nth ys k
        · have HE : Hid (nth zs k = nth ys k) := he
          have hne : (nth zs k != nth ys k) = false := by simpa using he
          clear he
          go_wp2
          go_quiet (fail)
          go_wp2
          go_roundw
          case rel => exact ⟨k + 1, by omega, by go_num, fun j hj => by by_cases e : j = k; (· subst e; exact HE.out); exact HZ.out j (by omega), _, rfl⟩
          case measure => simp [intOf]; omega
        · have hne : (nth zs k != nth ys k) = true := by simpa using he
          have HE : Hid (nth zs k ≠ nth ys k) := he
          clear he
          go_wp2
          go_quiet (fail)
          go_wp2
          go_ret
          exact ⟨ret_bool (eqB_no (k := k) (by have := HL.out; omega) HE.out).symm, q + nq, by simp⟩
      · obtain rfl : k = n := by omega
        have HZ : Hid (∀ j, j < k → nth zs j = nth ys j) := hz
        clear hz h g
        go_wp2
        go_ret
        exact ⟨ret_bool (eqB_yes (by have := HL.out; have := GL.out; omega) (fun j hj => HZ.out j (by have := HL.out; omega))).symm, _, rfl⟩
  · have hnm' : ((n : Int) != (m : Int)) = true := by simp; omega
    go_enter Tryz.func91, Tryz.ntmps91
    go_wp2
    go_ret
    exact ⟨ret_bool (eqB_len (by have := HL.out; have := GL.out; omega)).symm, 0, rfl⟩

/-- How many of k lengths are the cell's. -/
def rankF (k : Nat) (r : Int) : Nat := if 0 ≤ r then (min r k).toNat else ((k : Int) + r).toNat
end Go.Proofs.YtmepcenbaohcoaaGreat

namespace Go.Proofs.YtmepcenbaohcoaaGreat

open Go.RowKit

set_option linter.unusedVariables false

theorem quo_gt {p z : Int} (hp : 1 ≤ p) (hz : 0 ≤ z) : 4096 / p < z ↔ 4096 < p * z := by
  rw [Int.mul_comm, ← Int.ediv_lt_iff_lt_mul (by omega)]

set_option maxHeartbeats 1000000 in
theorem may_any (ao : Option Addr) (n cap : Nat) (zs : List Int) (w : World) (h : Rd w ao n zs) :
    Calls Tryz.prog 56 #[.slice ao n cap] w fun e w' => e = .returned (.int .i64 (mayF zs)) ∧ w' = w := by
  have hroom := h.room
  have HL : Hid (zs.length = n) := h.len
  go_enter Tryz.func56, Tryz.ntmps56
  go_wp2
  go_loop [10] (fun i => ∃ k : Nat, k ≤ n ∧ i = .int .i64 (k : Nat) ∧ ∀ j, j < k → 0 ≤ nth zs j) (fun i => n - (intOf i).toNat)
  case atStart => exact ⟨0, Nat.zero_le _, rfl, fun j hj => by omega⟩
  case round =>
    obtain ⟨k, hk, rfl, hz⟩ := hrel
    by_cases hlt : k < n
    · obtain ⟨b, off, rfl, hb, hc⟩ := h.cells (by omega)
      have hc' := hc k hlt
      have hnum := h.num k hlt
      by_cases hneg : nth zs k < 0
      · go_wp2
        go_ret
        exact ⟨ret_int (mayF_neg (by have := HL.out; omega) hneg).symm, rfl⟩
      · have hge : 0 ≤ nth zs k := by omega
        go_wp2
        go_round
        case rel => exact ⟨k + 1, by omega, by go_num, fun j hj => by by_cases e : j = k; (· subst e; exact hge); exact hz j (by omega)⟩
        case measure => simp [intOf]; omega
    · obtain rfl : k = n := by omega
      have hall : ∀ j, j < zs.length → 0 ≤ nth zs j := fun j hj => hz j (by have := HL.out; omega)
      by_cases h8 : 8 < k
      · go_wp2
        go_ret
        exact ⟨ret_int (mayF_long hall (by have := HL.out; omega)).symm, rfl⟩
      · go_wp2
        go_loop [5, 22] (fun p i => ∃ m : Nat, m ≤ k ∧ i = .int .i64 (m : Nat) ∧ p = .int .i64 (pz (zs.take m)) ∧ pz (zs.take m) ≤ 4096) (fun _ i => k - (intOf i).toNat)
        case atStart => exact ⟨0, Nat.zero_le _, rfl, rfl, by simp [pz]⟩
        case round =>
          obtain ⟨m, hm, rfl, rfl, hle⟩ := hrel
          have hp1 : 1 ≤ pz (zs.take m) := pz_pos m (by have := HL.out; omega) (fun j hj => hz j (by omega))
          by_cases hlt : m < k
          · obtain ⟨b, off, rfl, hb, hc⟩ := h.cells (by omega)
            have hc' := hc m hlt
            have hnum := h.num m hlt
            have hge := hz m hlt
            have HS : Hid (pz (zs.take (m + 1)) = if nth zs m = 0 then pz (zs.take m) else pz (zs.take m) * nth zs m) := by
              have := HL.out
              show _ = _
              rw [take_nth (by omega), pz_snoc]
            have HT : Hid (zs.length = k) := HL
            clear hc h hz
            generalize pz (zs.take m) = p at *
            generalize hx : nth zs m = x at *
            by_cases h0 : x = 0
            · subst h0
              go_wp2
              go_round
              case rel => exact ⟨m + 1, by omega, by go_num, by rw [HS.out, if_pos rfl], by rw [HS.out, if_pos rfl]; exact hle⟩
              case measure => simp [intOf]; omega
            · have h0' : (x == 0) = false := by simpa using h0
              by_cases hbig : 4096 < p * x
              · have hq : 4096 / p < x := (quo_gt hp1 hge).2 hbig
                go_wp2
                go_ret
                exact ⟨ret_int (mayF_great (m := m + 1) hall (by have := HT.out; omega) (by rw [HS.out, if_neg h0]; exact hbig)).symm, rfl⟩
              · have hq : ¬ 4096 / p < x := fun hc => hbig ((quo_gt hp1 hge).1 hc)
                have hmul0 : 0 ≤ p * x := Int.mul_nonneg (by omega) hge
                have hmul1 : p * x ≤ 4096 := by omega
                go_wp2
                go_round
                case rel => exact ⟨m + 1, by omega, by go_num, by rw [HS.out, if_neg h0], by rw [HS.out, if_neg h0]; exact hmul1⟩
                case measure => simp [intOf]; omega
          · obtain rfl : m = k := by omega
            go_wp2
            go_ret
            have hl := HL.out
            exact ⟨ret_int (mayF_ok hall (by omega) (by rw [← hl, List.take_length] at hle; exact hle)).symm, rfl⟩
end Go.Proofs.YtmepcenbaohcoaaGreat

namespace Go.Proofs.YtmepcenbaohcoaaGreat

set_option linter.unusedVariables false

theorem pr_bd {zs : List Int} (hz : ∀ k, k < zs.length → 0 ≤ nth zs k) : ∀ m, m ≤ zs.length → 0 ≤ pr (zs.take m) ∧ pr (zs.take m) ≤ pz (zs.take m)
  | 0, _ => by simp [pr, pz]
  | m + 1, hm => by
    have ih := pr_bd hz m (by omega)
    have hp := pz_pos (l := zs) m (by omega) (fun k hk => hz k (by omega))
    rw [take_nth (by omega), pr_snoc, pz_snoc]
    have h := hz m (by omega)
    split
    · rename_i e; rw [e]; simp; omega
    · exact ⟨Int.mul_nonneg ih.1 h, Int.mul_le_mul_of_nonneg_right ih.2 h⟩

theorem pr_small {zs : List Int} (h0 : mayF zs = 0) (m : Nat) (hm : m ≤ zs.length) : 0 ≤ pr (zs.take m) ∧ pr (zs.take m) ≤ 4096 := by
  obtain ⟨hz, _, hp⟩ := mayF_zero h0
  have h1 := pr_bd hz m hm
  have h2 := pz_up (l := zs) (i := m) zs.length hm (Nat.le_refl _) hz
  rw [List.take_length] at h2
  omega

theorem nth_small {zs : List Int} (h0 : mayF zs = 0) {k : Nat} (hk : k < zs.length) : 0 ≤ nth zs k ∧ nth zs k ≤ 4096 := by
  obtain ⟨hz, _, hp⟩ := mayF_zero h0
  have h1 := hz k hk
  refine ⟨h1, ?_⟩
  by_cases e : nth zs k = 0
  · omega
  · have h2 := pz_up (l := zs) (i := k + 1) zs.length hk (Nat.le_refl _) hz
    have h3 := pz_pos (l := zs) k (by omega) (fun j hj => hz j (by omega))
    rw [List.take_length, take_nth hk, pz_snoc, if_neg e] at h2
    have := Int.mul_le_mul_of_nonneg_right h3 h1
    omega

/-- The answer of Size. -/
def sizeF (zs : List Int) : Int := if mayF zs = 0 then pr zs else 0
theorem sizeF_ok {zs : List Int} (h : mayF zs = 0) : sizeF zs = pr zs := if_pos h
theorem sizeF_no {zs : List Int} (h : mayF zs ≠ 0) : sizeF zs = 0 := if_neg h
theorem sizeF_bd (zs : List Int) : 0 ≤ sizeF zs ∧ sizeF zs ≤ 4096 := by
  unfold sizeF
  split
  · rename_i h; have := pr_small h zs.length (Nat.le_refl _); rwa [List.take_length] at this
  · omega

end Go.Proofs.YtmepcenbaohcoaaGreat

namespace Go.Proofs.YtmepcenbaohcoaaGreat

set_option linter.unusedVariables false

theorem pr_foldl (l : List Int) : ∀ a : Int, l.foldl (fun p z => p * z) a = a * pr l := by
  induction l with
  | nil => intro a; simp [pr]
  | cons z l ih => intro a; simp only [pr, List.foldl_cons]; rw [ih, ih (1 * z), Int.one_mul, Int.mul_assoc]
theorem pr_cons (z : Int) (l : List Int) : pr (z :: l) = z * pr l := by
  show (z :: l).foldl (fun p z => p * z) 1 = _
  rw [List.foldl_cons, pr_foldl, Int.one_mul]
theorem pr_app (a b : List Int) : pr (a ++ b) = pr a * pr b := by
  show (a ++ b).foldl (fun p z => p * z) 1 = _
  rw [List.foldl_append, pr_foldl]; rfl
end Go.Proofs.YtmepcenbaohcoaaGreat

namespace Go.Proofs.YtmepcenbaohcoaaGreat

open Go.RowKit

set_option linter.unusedVariables false

set_option maxHeartbeats 1000000 in
theorem size_any (ao : Option Addr) (n cap : Nat) (zs : List Int) (w : World) (h : Rd w ao n zs) :
    Calls Tryz.prog 37 #[.slice ao n cap] w fun e w' => e = .returned (.tuple #[.int .i64 (sizeF zs), .int .i64 (mayF zs)]) ∧ w' = w := by
  have hroom := h.room
  have HL : Hid (zs.length = n) := h.len
  have hm := may_any ao n cap zs w h
  by_cases h0 : mayF zs = 0
  · rw [h0] at hm
    have H0 : Hid (mayF zs = 0) := h0
    clear h0
    go_enter Tryz.func37, Tryz.ntmps37
    go_wp2_with (go_at_call 56; refine hm.mono ?_; rintro e w' ⟨rfl, rfl⟩)
    go_loop [5, 15] (fun p i => ∃ k : Nat, k ≤ n ∧ i = .int .i64 (k : Nat) ∧ p = .int .i64 (pr (zs.take k))) (fun _ i => n - (intOf i).toNat)
    case atStart => exact ⟨0, Nat.zero_le _, rfl, rfl⟩
    case round =>
      obtain ⟨k, hk, rfl, rfl⟩ := hrel
      by_cases hlt : k < n
      · obtain ⟨b, off, rfl, hb, hc⟩ := h.cells (by omega)
        have hc' := hc k hlt
        have hnum := h.num k hlt
        have hb1 := pr_small H0.out (k + 1) (by have := HL.out; omega)
        have e1 : pr (zs.take (k + 1)) = pr (zs.take k) * nth zs k := by rw [take_nth (by have := HL.out; omega), pr_snoc]
        have HS : Hid (pr (zs.take (k + 1)) = pr (zs.take k) * nth zs k) := e1
        rw [e1] at hb1
        clear e1
        go_wp2
        go_round
        case rel => exact ⟨k + 1, by omega, by go_num, by rw [HS.out]⟩
        case measure => simp [intOf]; omega
      · obtain rfl : k = n := by omega
        go_wp2
        go_ret2
        have hl := HL.out
        exact ⟨ret_two (by rw [sizeF_ok H0.out, ← hl, List.take_length]) H0.out.symm, rfl⟩
  · have h0' : (mayF zs != 0) = true := by simpa using h0
    have H0 : Hid (mayF zs ≠ 0) := h0
    clear h0
    go_enter Tryz.func37, Tryz.ntmps37
    go_wp2_with (go_at_call 56; refine hm.mono ?_; rintro e w' ⟨rfl, rfl⟩)
    go_ret2
    exact ⟨ret_two (sizeF_no H0.out).symm rfl, rfl⟩

end Go.Proofs.YtmepcenbaohcoaaGreat

namespace Go.Proofs.YtmepcenbaohcoaaGreat

open Go.RowKit

set_option linter.unusedVariables false

theorem ediv_zero_iff {p : Int} (hp : 1 ≤ p) : 4096 / p = 0 ↔ 4096 < p := by
  constructor
  · intro h
    by_cases c : 4096 < p
    · exact c
    · have : 1 ≤ 4096 / p := (Int.le_ediv_iff_mul_le (by omega)).2 (by omega)
      omega
  · intro h; exact Int.ediv_eq_zero_of_lt (by omega) h

set_option maxHeartbeats 2000000 in
theorem refMay_any (ao : Option Addr) (n cap : Nat) (zs : List Int) (w : World) (h : Rd w ao n zs) :
    Calls Tryz.prog 53 #[.slice ao n cap] w fun e w' => e = .returned (.int .i64 (mayF zs)) ∧ w' = w := by
  have hroom := h.room
  have HL : Hid (zs.length = n) := h.len
  go_enter Tryz.func53, Tryz.ntmps53
  go_wp2
  go_loop [3] (fun i => ∃ k : Nat, k ≤ n ∧ i = .int .i64 (k : Nat) ∧ ∀ j, j < k → 0 ≤ nth zs j) (fun i => n - (intOf i).toNat)
  case atStart => exact ⟨0, Nat.zero_le _, rfl, fun j hj => by omega⟩
  case round =>
    obtain ⟨k, hk, rfl, hz⟩ := hrel
    by_cases hlt : k < n
    · obtain ⟨b, off, rfl, hb, hc⟩ := h.cells (by omega)
      have hc' := hc k hlt
      have hnum := h.num k hlt
      by_cases hneg : nth zs k < 0
      · go_wp2
        go_ret
        exact ⟨ret_int (mayF_neg (by have := HL.out; omega) hneg).symm, rfl⟩
      · have hge : 0 ≤ nth zs k := by omega
        go_wp2
        go_round
        case rel => exact ⟨k + 1, by omega, by go_num, fun j hj => by by_cases e : j = k; (· subst e; exact hge); exact hz j (by omega)⟩
        case measure => simp [intOf]; omega
    · obtain rfl : k = n := by omega
      have hall : ∀ j, j < zs.length → 0 ≤ nth zs j := fun j hj => hz j (by have := HL.out; omega)
      by_cases h8 : 8 < k
      · go_wp2
        go_ret
        exact ⟨ret_int (mayF_long hall (by have := HL.out; omega)).symm, rfl⟩
      · go_wp2
        go_loop [4, 5] (fun p i => ∃ m : Nat, m ≤ k ∧ i = .int .i64 (m : Nat) ∧ p = .int .i64 (4096 / pz (zs.take m)) ∧ pz (zs.take m) ≤ 4096) (fun _ i => k - (intOf i).toNat)
        case atStart => exact ⟨0, Nat.zero_le _, rfl, by simp [pz], by simp [pz]⟩
        case round =>
          obtain ⟨m, hm, rfl, rfl, hle⟩ := hrel
          have hp1 : 1 ≤ pz (zs.take m) := pz_pos m (by have := HL.out; omega) (fun j hj => hz j (by omega))
          by_cases hlt : m < k
          · obtain ⟨b, off, rfl, hb, hc⟩ := h.cells (by omega)
            have hc' := hc m hlt
            have hnum := h.num m hlt
            have hge := hz m hlt
            have HS : Hid (pz (zs.take (m + 1)) = if nth zs m = 0 then pz (zs.take m) else pz (zs.take m) * nth zs m) := by
              have := HL.out
              show _ = _
              rw [take_nth (by omega), pz_snoc]
            have HT : Hid (zs.length = k) := HL
            clear hc h hz
            generalize pz (zs.take m) = p at *
            generalize hx : nth zs m = x at *
            have hl1 : 1 ≤ 4096 / p := (Int.le_ediv_iff_mul_le (by omega)).2 (by omega)
            have hl2 : 4096 / p ≤ 4096 := Int.ediv_le_self _ (by omega)
            generalize hq : 4096 / p = l at *
            have HQ : Hid (4096 / p = l) := hq
            clear hq
            by_cases h0 : x = 0
            · subst h0
              have hl0 : (l == 0) = false := by simp; omega
              go_wp2
              go_round
              case rel => exact ⟨m + 1, by omega, by go_num, by rw [HS.out, if_pos rfl, HQ.out], by rw [HS.out, if_pos rfl]; exact hle⟩
              case measure => simp [intOf]; omega
            · have hpos : 0 < x := by omega
              have hpx : 1 ≤ p * x := by have := Int.mul_le_mul hp1 (show 1 ≤ x by omega) (by omega) (by omega); omega
              have HD : Hid (l / x = 4096 / (p * x)) := by
                show _ = _
                rw [← HQ.out, Int.ediv_ediv_of_nonneg (by omega)]
              have hz1 := ediv_zero_iff hpx
              rw [← HD.out] at hz1
              have hd0 : 0 ≤ l / x := Int.ediv_nonneg (by omega) (by omega)
              have hd1 : l / x ≤ 4096 := Int.le_trans (Int.ediv_le_self _ (by omega)) hl2
              by_cases hbig : 4096 < p * x
              · have hq0 : (l / x == 0) = true := by simpa using hz1.2 hbig
                clear hz1
                go_wp2
                go_ret
                exact ⟨ret_int (mayF_great (m := m + 1) hall (by have := HT.out; omega) (by rw [HS.out, if_neg h0]; exact hbig)).symm, rfl⟩
              · have hq0 : (l / x == 0) = false := by
                  rw [beq_eq_false_iff_ne]; exact fun e => hbig (hz1.1 e)
                clear hz1
                go_wp2
                go_round
                case rel => exact ⟨m + 1, by omega, by go_num, by rw [HS.out, if_neg h0, HD.out], by rw [HS.out, if_neg h0]; omega⟩
                case measure => simp [intOf]; omega
          · obtain rfl : m = k := by omega
            go_wp2
            go_ret
            have hl := HL.out
            exact ⟨ret_int (mayF_ok hall (by omega) (by rw [← hl, List.take_length] at hle; exact hle)).symm, rfl⟩

set_option maxHeartbeats 1000000 in
theorem refCount_any (ao : Option Addr) (n cap : Nat) (zs : List Int) (w : World) (h : Rd w ao n zs) (h0 : mayF zs = 0) :
    Calls Tryz.prog 93 #[.slice ao n cap] w fun e w' => e = .returned (.int .i64 (pr zs)) ∧ w' = w := by
  have hroom := h.room
  have HL : Hid (zs.length = n) := h.len
  have H0 : Hid (mayF zs = 0) := h0
  clear h0
  go_enter Tryz.func93, Tryz.ntmps93
  go_wp2
  go_loop [3, 4] (fun p i => ∃ k : Nat, k ≤ n ∧ i = .int .i64 (k : Nat) ∧ p = .int .i64 (pr (zs.take k))) (fun _ i => n - (intOf i).toNat)
  case atStart => exact ⟨0, Nat.zero_le _, rfl, rfl⟩
  case round =>
    obtain ⟨k, hk, rfl, rfl⟩ := hrel
    by_cases hlt : k < n
    · obtain ⟨b, off, rfl, hb, hc⟩ := h.cells (by omega)
      have hc' := hc k hlt
      have hnum := h.num k hlt
      have hb1 := pr_small H0.out (k + 1) (by have := HL.out; omega)
      have e1 : pr (zs.take (k + 1)) = pr (zs.take k) * nth zs k := by rw [take_nth (by have := HL.out; omega), pr_snoc]
      have HS : Hid (pr (zs.take (k + 1)) = pr (zs.take k) * nth zs k) := e1
      rw [e1] at hb1
      clear e1
      go_wp2
      go_round
      case rel => exact ⟨k + 1, by omega, by go_num, by rw [HS.out]⟩
      case measure => simp [intOf]; omega
    · obtain rfl : k = n := by omega
      go_wp2
      go_ret
      have hl := HL.out
      exact ⟨ret_int (by rw [← hl, List.take_length]), rfl⟩

theorem refSize_any (ao : Option Addr) (n cap : Nat) (zs : List Int) (w : World) (h : Rd w ao n zs) :
    Calls Tryz.prog 76 #[.slice ao n cap] w fun e w' => e = .returned (.tuple #[.int .i64 (sizeF zs), .int .i64 (mayF zs)]) ∧ w' = w := by
  have hm := refMay_any ao n cap zs w h
  by_cases h0 : mayF zs = 0
  · have hc := refCount_any ao n cap zs w h h0
    rw [h0] at hm
    have H0 : Hid (mayF zs = 0) := h0
    clear h0
    go_enter Tryz.func76, Tryz.ntmps76
    go_wp2_with (first | (go_at_call 53; refine hm.mono ?_; rintro e w' ⟨rfl, rfl⟩) | (go_at_call 93; refine hc.mono ?_; rintro e w' ⟨rfl, rfl⟩))
    go_ret2
    exact ⟨ret_two (sizeF_ok H0.out).symm H0.out.symm, rfl⟩
  · have h0' : (mayF zs != 0) = true := by simpa using h0
    have H0 : Hid (mayF zs ≠ 0) := h0
    clear h0
    go_enter Tryz.func76, Tryz.ntmps76
    go_wp2_with (go_at_call 53; refine hm.mono ?_; rintro e w' ⟨rfl, rfl⟩)
    go_ret2
    exact ⟨ret_two (sizeF_no H0.out).symm rfl, rfl⟩

end Go.Proofs.YtmepcenbaohcoaaGreat
