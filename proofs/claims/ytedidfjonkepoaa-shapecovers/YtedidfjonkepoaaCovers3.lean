/- The walk of the law ShapeCovers, of any lists; and how they are read. -/
import Derived.Test.YtedidfjonkepoaaCovers2
import Derived.Test.YtedidfjonkepoaaOpened
namespace Go.Proofs.Ytedidfjonkepoaa
open Go.RowKit
set_option linter.unusedVariables false

set_option maxHeartbeats 1000000 in
theorem covers_zero (ao : Option Addr) (cap : Nat) (w : World) :
    Calls Try.prog 7 #[.slice ao 0 cap] w fun e w' => e = .returned (.bool true) ∧ Below w.heap.size w w' := by
  have hr : ∀ W : World, Rs W ao 0 [] := fun W => ⟨rfl, by omega, fun h => by omega⟩
  have hc : ∀ W, Calls Try.prog 26 #[.slice ao 0 cap] W fun e w' => ∃ co k c, e = .returned (.tuple #[.slice co k c, .int .i64 1]) ∧ Rd w' co k [] ∧ Below W.heap.size W w' := fun W =>
    (cover_any ao 0 cap [] W (hr W)).mono fun e w' ⟨co, k, c, e1, e2, e3⟩ => ⟨co, k, c, e1, e2.rd, e3⟩
  go_enter Try.func7, Try.ntmps7
  go_wp2_with (first
    | (go_at_call 8; refine (begun_any _).mono ?_; rintro e w1 ⟨rfl, hb1⟩)
    | (go_at_call 26; (with_reducible refine (hc _).mono ?_); rintro e w2 ⟨co, kc, cc, rfl, hr2, hb2⟩; have hk0 : kc = 0 := hr2.len.symm; subst hk0))
  go_ret
  exact ⟨rfl, bt hb1 hb2 hb1.size⟩

/-- A slice of slices of numbers that was read is a list of lists. -/
theorem open_lists {H : Type} {enc : TypeId × Value → H} {W : World} {fuel : Nat} {a : Option Addr} {len cap : Nat} {x : DataW H × List MemPlace} (h : DataW.trod enc Try.prog W 0 (fun _ => true) true fuel 29 [.slice a len cap] = some x)
    (hz : ∀ elems spare, x.1 = .slice elems spare → (elems.length + spare.length) * 24 ≤ 140737488351232 ∧ ∀ d ∈ elems, ∀ el sp, d = .slice el sp → (el.length + sp.length) * 8 ≤ 140737488351232) :
    ∃ zss, Rs W a len zss ∧ len ≤ cap ∧ cap ≤ 9223372036854775807 ∧ len * 24 ≤ 140737488351232 := by
  rcases Go.Deep.open_slice Try.underlying29 h with ⟨hcs, _⟩ | ⟨a', len', cap', m, n, D, Pl, hcs, _, hl, hm, hmm, hx, hel⟩
  · cases hcs
    exact ⟨[], ⟨rfl, by omega, fun h => by omega⟩, by omega, by omega, by omega⟩
  · cases hcs
    simp at hmm
    subst hmm
    obtain ⟨hroom, hrows⟩ := hz _ _ (by rw [hx])
    simp only [List.length_map, List.length_range] at hroom
    unfold maxLen at hm
    have hq : ∀ i, i < len → ∃ z : List Int, ∃ A L C, W.cell? (a'.add i) = some (.slice A L C) ∧ Rd W A L z ∧ Sl A L C := by
      intro i hi
      obtain ⟨cs', h1, h2⟩ := hel i (by omega)
      rw [cells25, Nat.mul_one] at h1
      obtain ⟨v, rfl, hv⟩ := cells_one h1
      have hsl : ∃ A L C, v = .slice A L C := by
        rcases Go.Deep.open_slice Try.underlying25 h2 with ⟨hcs, _⟩ | ⟨a2, len2, cap2, _, _, _, _, hcs, _⟩
        · cases hcs; exact ⟨_, _, _, rfl⟩
        · cases hcs; exact ⟨_, _, _, rfl⟩
      obtain ⟨A, L, C, rfl⟩ := hsl
      obtain ⟨z, hz1, hz2⟩ := open_list h2 (fun el sp e => hrows (D i) (List.mem_map.2 ⟨i, List.mem_range.2 hi, rfl⟩) el sp e)
      exact ⟨z, A, L, C, hv, hz1, hz2⟩
    obtain ⟨f, hf⟩ := Go.Deep.choose_lt hq
    have hrow : ∀ k, k < len → row ((List.range len).map f) k = f k := fun k hk => by simp [row, hk]
    refine ⟨(List.range len).map f, ⟨by simp, by omega, fun h0 => ?_⟩, hl, by omega, by omega⟩
    obtain ⟨A0, L0, C0, h00, _⟩ := hf 0 h0
    have e0 : a'.add 0 = a' := by cases a'; rfl
    rw [e0] at h00
    obtain ⟨b, off, rfl⟩ := addr_none h00
    have hb := World.block_lt_of_cell? W _ h00
    refine ⟨b, off, rfl, hb, fun k hk => ?_⟩
    obtain ⟨A, L, C, h1, h2, h3⟩ := hf k hk
    rw [add_at] at h1
    exact ⟨A, L, C, h1, by rw [hrow k hk]; exact h2, h3⟩

theorem row_take {zss : List (List Int)} {m k : Nat} (h : k < m) : row (zss.take m) k = row zss k := by
  simp [row, h]

theorem covers_walk (ao : Option Addr) (n cap : Nat) (zss : List (List Int)) (w : World) (h : Rs w ao n zss) (hcap : n ≤ cap) (hcap2 : cap ≤ 9223372036854775807) (hnr : n * 24 ≤ 140737488351232) :
    Calls Try.prog 7 #[.slice ao n cap] w fun e w' => e = .returned (.bool true) ∧ Below w.heap.size w w' := by
  by_cases h0 : n = 0
  · subst h0; exact covers_zero ao cap w
  · obtain ⟨b, off, rfl, hb, hc⟩ := h.cells (by omega)
    by_cases h2 : n ≤ 200
    · exact covers_small b off n cap zss w h (by omega) h2 hcap hcap2 (by omega)
    · refine covers_big b off n 200 cap (zss.take 200) w ⟨by rw [List.length_take, h.len]; omega, by omega, fun _ => ⟨b, off, rfl, hb, fun k hk => ?_⟩⟩ (by omega) rfl hcap hcap2 (by omega)
      obtain ⟨A, L, C, h1, h2, h3⟩ := hc k (by omega)
      exact ⟨A, L, C, h1, by rw [row_take hk]; exact h2, h3⟩
end Go.Proofs.Ytedidfjonkepoaa
