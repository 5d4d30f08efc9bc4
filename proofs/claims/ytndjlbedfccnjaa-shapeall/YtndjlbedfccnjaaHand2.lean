
/- The hand in which a list is handed in: a great one is let go first; and how it is looked at behind the call. -/

import Derived.Test.YtndjlbedfccnjaaHand1

namespace Go.Proofs.Ytndjlbedfccnjaa

open Go.RowKit

set_option linter.unusedVariables false

/-- A list that reads keeps its reading; an empty one needs no cells. -/
theorem Rd.kept0 {w w' : World} {row : Option Nat} {ao : Option Addr} {n : Nat} {zs : List Int} (h : Rd w ao n zs) (hg : w.grownBy w' row) (hne : 0 < n → ∀ b off, ao = some ⟨b, off, none⟩ → some b ≠ row) : Rd w' ao n zs := by
  rcases Nat.eq_zero_or_pos n with e | e
  · subst e
    have : zs = [] := List.eq_nil_of_length_eq_zero h.len
    subst this
    exact Rd.empty _ _
  · exact h.kept hg (hne e)
set_option maxHeartbeats 8000000 in
theorem ints_big (hb ho B : Nat) (g0 gn : Nat) (lo : Option Addr) (n cap : Nat) (zs : List Int) (w : World) (hh : Hd w B ⟨hb, ho, none⟩ (some ⟨g0, 0, none⟩) gn) (h : Rd w lo n zs) (hs : Sl lo n cap) (hlb : 0 < n → ∀ b off, lo = some ⟨b, off, none⟩ → b ≠ hb) (hsm : n ≤ 100000000) (hB : B ≤ w.heap.size) (hgn : n + 70000 < gn) :
    Calls Try.prog 18 #[.pointer (some ⟨hb, ho, none⟩), .slice lo n cap] w fun e w' => ∃ g c, e = .returned (.slice (some ⟨g, 0, none⟩) n c) ∧ Handed w w' B hb ho (some ⟨g0, 0, none⟩) n zs g c := by
  have hc := hh.cell
  have hz := hh.frozen
  have hroom := h.room
  have hp : hb < w.heap.size := World.block_lt_of_cell? w _ hc
  have hbB : B ≤ hb := hh.base
  have hle : gn ≤ 9223372036854775807 := by
    rcases hh.row with h | ⟨g, e, _, _, p⟩
    · cases h.1
    · exact p.le
  have hmark := fun i w h => mark_any i w h
  have HL : Hid (zs.length = n) := h.len
  have g1 := grown_set w hb ho (.slice none 0 0)
  have h1 := h.kept0 g1 (fun h0 b off e => some_ne (hlb h0 b off e))
  have hF : Fr (w.setCell ⟨hb, ho, none⟩ (.slice none 0 0)) B none 0 0 [] := Fr.nil _ _
  have hc1 : (w.setCell ⟨hb, ho, none⟩ (.slice none 0 0)).cell? ⟨hb, ho, none⟩ = some (.slice none 0 0) := World.cell?_setCell_same' _ _ _ (by rw [hc]; rfl)
  have hz1 : (w.setCell ⟨hb, ho, none⟩ (.slice none 0 0)).frozen? ⟨hb, ho, none⟩ = false := by rw [World.frozen?_setCell]; exact hz
  have hB1 : B ≤ (w.setCell ⟨hb, ho, none⟩ (.slice none 0 0)).heap.size := by simpa using hB
  go_enter Try.func18, Try.ntmps18
  go_wp2_with (first
    | (at_builtin; refine wpList_joinG rfl (.tmp 25) (.tmp 26) rfl B _ _ _ _ _ _ _ _ rfl rfl hF h1 hs (by omega) hB1 ?_; intro co3 c3 w3 hf3 hg3 hw3; rw [Nat.zero_add, List.nil_append] at hf3; have hf4 := hf3.kept (World.grownBy_alloc w3 (.cells #[.int .i64 0, .int .i64 0] 3) none) (by simp); have hsz3 := hg3.size)
    | (at_builtin; refine wpList_joinG rfl (.tmp 28) (.tmp 29) rfl B _ _ _ _ _ _ _ _ rfl rfl hf4 (rdA w3 [0, 0] (by decide)) (slA _ 2 (by omega)) (by omega) (by simp; simp at hsz3; omega) ?_; intro co5 c5 w5 hf5 hg5 hw5; obtain ⟨g5, e5, hB5, hl5, _, _⟩ := hf5.head (by omega); subst e5))
  obtain ⟨hk5, hfr5⟩ := ints_keep hg3 hw3 hg5 hw5
  have hn5 : n + 2 ≤ c5 := hf5.sl.le
  have hm5 : c5 ≤ 9223372036854775807 := hf5.sl.max
  have hfr6 : w.heap.size ≤ g5 := by
    rcases hfr5 with e | e
    · cases e
    · simpa using e
  have hg5b : g5 ≠ hb := by omega
  have hpr : PRow w5 g5 c5 n (marked zs n) := by
    rcases hf5.own.2 with ⟨e, _⟩ | ⟨g', c', cur, e, _, hg, _, _, hcs, ht⟩
    · cases e
    · cases e
      refine ⟨⟨cur, hg, by omega, fun k hk => ?_⟩, hm5⟩
      have h2 : (cur.toList.take ((n + 2) * 1))[k]? = some (.int .i64 (nth zs k)) := by
        rw [ht, List.map_append, List.getElem?_append_left (by rw [List.length_map, HL.out]; exact hk)]
        exact nth_map (by rw [HL.out]; exact hk)
      rw [List.getElem?_take_of_lt (by omega)] at h2
      unfold marked; rw [if_pos hk]
      simpa using h2
  have hcp : w5.heap[hb]? = (w.setCell ⟨hb, ho, none⟩ (.slice none 0 0)).heap[hb]? := hk5.block hb (by simpa using hp) (by simp [Value.ownBlock])
  clear hf5 hf4 hf3 hg3 hg5 hw3 hw5 hF
  go_loopw [7] (fun i wr => ∃ k : Nat, n ≤ k ∧ k ≤ c5 ∧ i = .int .i64 (k : Nat) ∧ PRow wr g5 c5 k (marked zs n) ∧ w5.grownBy wr (some g5)) (fun i _ => c5 - (intOf i).toNat)
  case atStart => exact ⟨n, Nat.le_refl _, by omega, rfl, hpr, ⟨rfl, rfl, rfl, Nat.le_refl _, fun _ _ _ => rfl⟩⟩
  case round =>
    obtain ⟨k, hk1, hk2, rfl, hpk, hgk⟩ := hrel
    by_cases hlt : k < c5
    · obtain ⟨v0, cv⟩ := hpk.is hlt
      have zv := hpk.frozen k
      obtain ⟨s1, s2⟩ := hpk.set hlt (mk k) (by unfold marked; rw [if_neg (by omega)])
      go_wp2_with (go_at_call 37; refine (hmark k _ (by omega)).mono ?_; rintro e w' ⟨rfl, hw⟩; rw [hw]; clear hw w')
      go_roundw
      case rel => exact ⟨k + 1, by omega, by omega, by go_num, s1, grown_transH hgk s2⟩
      case measure => simp [intOf]; omega
    · obtain rfl : c5 = k := by omega
      have hcr : wr.heap[hb]? = (w.setCell ⟨hb, ho, none⟩ (.slice none 0 0)).heap[hb]? := (hgk.block hb (Nat.lt_of_lt_of_le (by simpa using hp) hk5.size) (some_ne (Ne.symm hg5b))).trans hcp
      have cp : wr.cell? ⟨hb, ho, none⟩ = some (.slice none 0 0) := (World.cell?_of_block (a := ⟨hb, ho, none⟩) hcr).trans hc1
      have zp : wr.frozen? ⟨hb, ho, none⟩ = false := (World.frozen?_of_block (a := ⟨hb, ho, none⟩) hcr).trans hz1
      go_wp2
      go_ret
      have gs : wr.grownBy (wr.setCell ⟨hb, ho, none⟩ (.slice (some ⟨g5, 0, none⟩) c5 c5)) (some hb) := grown_set _ _ _ _
      refine ⟨g5, c5, rfl, hn5, hB5, hg5b, .inr hfr6, hpk.kept gs (some_ne hg5b), World.cell?_setCell_same' _ _ _ (by rw [cp]; rfl), by rw [World.frozen?_setCell]; exact zp, ?_, fun o hne => ?_, fun cur t e => ⟨_, heap_setCell_same wr hb ho _ t _ (hcr.trans (heap_setCell_same w hb ho cur t _ e)), by simp⟩⟩
      · have k2 := ints_keep2 hk5 hgk hfr5 gs
        exact (widen (Keep.of g1) (fun j e => by cases e; exact .inl rfl)).trans k2 (fun j _ e => by
          rcases e with e | e
          · exact .inl e
          · cases e)
      · have e1 : wr.cell? ⟨hb, o, none⟩ = (w.setCell ⟨hb, ho, none⟩ (.slice none 0 0)).cell? ⟨hb, o, none⟩ := World.cell?_of_block hcr
        have e2 : wr.frozen? ⟨hb, o, none⟩ = (w.setCell ⟨hb, ho, none⟩ (.slice none 0 0)).frozen? ⟨hb, o, none⟩ := World.frozen?_of_block hcr
        exact ⟨by rw [set_other _ _ _ _ _ hne, e1, set_other _ _ _ _ _ hne], by rw [World.frozen?_setCell, e2, World.frozen?_setCell]⟩

/-- Ints: a list laid into the hand. -/
theorem ints_any (hb ho B : Nat) (go : Option Addr) (gn : Nat) (lo : Option Addr) (n cap : Nat) (zs : List Int) (w : World) (hh : Hd w B ⟨hb, ho, none⟩ go gn) (h : Rd w lo n zs) (hs : Sl lo n cap) (hlb : 0 < n → ∀ b off, lo = some ⟨b, off, none⟩ → b ≠ hb) (hsm : n ≤ 100000000) (hB : B ≤ w.heap.size) :
    Calls Try.prog 18 #[.pointer (some ⟨hb, ho, none⟩), .slice lo n cap] w fun e w' => ∃ g c, e = .returned (.slice (some ⟨g, 0, none⟩) n c) ∧ Handed w w' B hb ho go n zs g c := by
  by_cases hgn : gn ≤ n + 70000
  · exact ints_small hb ho B go gn lo n cap zs w hh h hs hsm hB hgn
  · obtain ⟨g0, rfl⟩ : ∃ g0, go = some ⟨g0, 0, none⟩ := by
      rcases hh.row with ⟨_, e⟩ | ⟨g, e, _⟩
      · omega
      · exact ⟨g, e⟩
    exact ints_big hb ho B g0 gn lo n cap zs w hh h hs hlb hsm hB (by omega)

theorem Handed.rd {w w' : World} {B hb ho : Nat} {go : Option Addr} {n : Nat} {zs : List Int} {g c : Nat} (h : Handed w w' B hb ho go n zs g c) {lo : Option Addr} {w0 : World} (hr : Rd w0 lo n zs) : Rd w' (some ⟨g, 0, none⟩) n zs :=
  ⟨hr.len, hr.room, hr.num, fun _ => ⟨g, 0, rfl, h.row.lt, fun k hk => by
    have := h.row.cell (k := k) (by have := h.room; omega)
    rw [Nat.zero_add, this]
    unfold marked; rw [if_pos hk]⟩⟩

theorem prow_put {W : World} {g cap : Nat} {f f' : Nat → Int} (m : Nat) (h : PRow W g cap cap f) (hm : m < cap) (u : Int) (hu : f' m = u) (ho : ∀ k, k ≠ m → f' k = f k) : PRow (W.setCell ⟨g, m, none⟩ (.int .i64 u)) g cap cap f' := by
  obtain ⟨cur, h1, h2, h3⟩ := h.blk
  refine ⟨⟨cur.setIfInBounds m (.int .i64 u), heap_setCell_same W g m cur 3 _ h1, by simpa using h2, fun k hk => ?_⟩, h.le⟩
  by_cases e : k = m
  · subst e; rw [hu]; simp [h2, hm]
  · rw [Array.getElem?_setIfInBounds_ne (Ne.symm e), ho k e]; exact h3 k hk

set_option maxHeartbeats 8000000 in
/-- IntsKept: the hand is as it was filled; then it is written over. -/
theorem kept_any (hb ho g gc : Nat) (lo : Option Addr) (n cap : Nat) (zs : List Int) (w : World) (hc : w.cell? ⟨hb, ho, none⟩ = some (.slice (some ⟨g, 0, none⟩) gc gc)) (hne : g ≠ hb) (hr : PRow w g gc gc (marked zs n)) (hn : n ≤ gc) (h : Rd w lo n zs) (hlb : 0 < n → ∀ b off, lo = some ⟨b, off, none⟩ → b ≠ g) :
    Calls Try.prog 19 #[.pointer (some ⟨hb, ho, none⟩), .slice lo n cap] w fun e w' => e = .returned (.bool true) ∧ PRow w' g gc gc (fun _ => -99) ∧ w.grownBy w' (some g) := by
  have hle := hr.le
  have hroom := h.room
  have hmark := fun i w h => mark_any i w h
  go_enter Try.func19, Try.ntmps19
  go_wp2
  go_loopw [5, 6] (fun ok i wr => ∃ k : Nat, k ≤ gc ∧ ok = .bool true ∧ i = .int .i64 (k : Nat) ∧ PRow wr g gc gc (fun j => if j < k then -99 else marked zs n j) ∧ w.grownBy wr (some g)) (fun _ i _ => gc - (intOf i).toNat)
  case atStart => exact ⟨0, Nat.zero_le _, rfl, rfl, by simpa using hr, ⟨rfl, rfl, rfl, Nat.le_refl _, fun _ _ _ => rfl⟩⟩
  case round =>
    obtain ⟨k, hk, rfl, rfl, hpk, hgk⟩ := hrel
    have cp : wr.cell? ⟨hb, ho, none⟩ = some (.slice (some ⟨g, 0, none⟩) gc gc) := hgk.cell hc (some_ne (Ne.symm hne))
    by_cases hlt : k < gc
    · have cv := hpk.cell hlt
      have zv := hpk.frozen k
      simp only [Nat.lt_irrefl, if_false] at cv
      have s1 : PRow (wr.setCell ⟨g, k, none⟩ (.int .i64 (-99))) g gc gc (fun j => if j < k + 1 then -99 else marked zs n j) := prow_put k hpk hlt (-99) (by rw [if_pos (by omega)]) (fun j hj => by
        by_cases c : j < k
        · rw [if_pos c, if_pos (by omega)]
        · rw [if_neg c, if_neg (by omega)])
      have s2 := grown_transH hgk (grown_set wr g k (.int .i64 (-99)))
      by_cases hkn : k < n
      · have hrw := h.kept0 hgk (fun h0 b off e => some_ne (hlb h0 b off e))
        obtain ⟨b, off, rfl, hb', hcs⟩ := hrw.cells (by omega)
        have c1 := hcs k hkn
        have em : marked zs n k = nth zs k := by unfold marked; rw [if_pos hkn]
        rw [em] at cv
        clear hcs em
        go_wp2_with (go_at_call 37; refine (hmark k _ (by omega)).mono ?_; rintro e w' ⟨rfl, hw⟩; rw [hw]; clear hw w')
        go_roundw
        case rel => exact ⟨k + 1, by omega, rfl, by go_num, s1, s2⟩
        case measure => simp [intOf]; omega
      · have em : marked zs n k = mk k := by unfold marked; rw [if_neg hkn]
        rw [em] at cv
        clear em
        go_wp2_with (go_at_call 37; refine (hmark k _ (by omega)).mono ?_; rintro e w' ⟨rfl, hw⟩; rw [hw]; clear hw w')
        go_roundw
        case rel => exact ⟨k + 1, by omega, rfl, by go_num, s1, s2⟩
        case measure => simp [intOf]; omega
    · obtain rfl : gc = k := by omega
      go_wp2
      go_ret
      refine ⟨rfl, ?_, hgk⟩
      obtain ⟨cur, h1, h2, h3⟩ := hpk.blk
      exact ⟨⟨cur, h1, h2, fun j hj => by have := h3 j hj; simpa [hj] using this⟩, hle⟩
end Go.Proofs.Ytndjlbedfccnjaa
