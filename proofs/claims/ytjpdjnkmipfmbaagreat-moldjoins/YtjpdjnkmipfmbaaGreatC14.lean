
/- Contract: what a joiner holds, joined: the row that is filled. -/

import Derived.Test.YtjpdjnkmipfmbaaGreatL2

namespace Go.Proofs.YtjpdjnkmipfmbaaGreat

open Go.RowKit

set_option linter.unusedVariables false

/-- The numbers of a row, the first k atoms laid into it. -/
def lyZ (cur : List Int) (off : Nat) (cm sh at' : List Int) : Nat → List Int
  | 0 => cur
  | k + 1 => (lyZ cur off cm sh at' k).set (off + tgt cm sh k) (nth at' k)
theorem lyZ_len (cur : List Int) (off : Nat) (cm sh at' : List Int) : ∀ k, (lyZ cur off cm sh at' k).length = cur.length
  | 0 => rfl
  | k + 1 => by show (List.set _ _ _).length = _; rw [List.length_set, lyZ_len cur off cm sh at' k]
theorem lyK_map (cur : List Int) (off : Nat) (cm sh at' : List Int) : ∀ k, lyK (cur.map (Value.int .i64)) off cm sh at' k = (lyZ cur off cm sh at' k).map (Value.int .i64)
  | 0 => rfl
  | k + 1 => by show List.set _ _ _ = _; rw [lyK_map cur off cm sh at' k]; show _ = (List.set _ _ _).map _; rw [List.map_set]
/-- The first n arrays, each in its place of z atoms. -/
def jnZ (cm : List Int) (z : Nat) (xs : Nat → List Int × List Int) (cur : List Int) : Nat → List Int
  | 0 => cur
  | n + 1 => lyZ (jnZ cm z xs cur n) (n * z) cm (xs n).1 (xs n).2 (xs n).2.length
theorem jnZ_len (cm : List Int) (z : Nat) (xs : Nat → List Int × List Int) (cur : List Int) : ∀ n, (jnZ cm z xs cur n).length = cur.length
  | 0 => rfl
  | n + 1 => by show (lyZ _ _ _ _ _ _).length = _; rw [lyZ_len, jnZ_len cm z xs cur n]
theorem set_num {l : List Int} {i : Nat} {v : Int} (h : ∀ k, k < l.length → -9223372036854775808 ≤ nth l k ∧ nth l k ≤ 9223372036854775807) (h1 : -9223372036854775808 ≤ v) (h2 : v ≤ 9223372036854775807) : ∀ k, k < (l.set i v).length → -9223372036854775808 ≤ nth (l.set i v) k ∧ nth (l.set i v) k ≤ 9223372036854775807 := by
  intro k hk
  rw [List.length_set] at hk
  by_cases hi : i < l.length
  · rw [nth_set hi]
    split
    · exact ⟨h1, h2⟩
    · exact h k hk
  · rw [List.set_eq_of_length_le (by omega)]; exact h k hk
theorem lyZ_num {cur at' : List Int} {off : Nat} {cm sh : List Int} (h : ∀ k, k < cur.length → -9223372036854775808 ≤ nth cur k ∧ nth cur k ≤ 9223372036854775807) (ha : ∀ k, k < at'.length → -9223372036854775808 ≤ nth at' k ∧ nth at' k ≤ 9223372036854775807) :
    ∀ n, n ≤ at'.length → ∀ k, k < (lyZ cur off cm sh at' n).length → -9223372036854775808 ≤ nth (lyZ cur off cm sh at' n) k ∧ nth (lyZ cur off cm sh at' n) k ≤ 9223372036854775807
  | 0, _ => h
  | n + 1, hn => set_num (lyZ_num h ha n (by omega)) (ha n (by omega)).1 (ha n (by omega)).2

set_option maxHeartbeats 2000000 in
theorem done_few {w : World} {B jb : Nat} {fo : Option Addr} {fn fc : Nat} {co : Option Addr} {cn cc : Nat} {go : Option Addr} {gc : Nat} {fs : List Int} {xs : Nat → List Int × List Int} {n : Nat} (h : Jn w B jb fo fn fc co cn cc go gc fs xs n) (m0 : mayF fs = 0) (hn : (n : Int) < pr fs) :
    Calls Tryz.prog 61 #[.pointer (some ⟨jb, 0, none⟩)] w fun e w' => e = .returned (.tuple #[.agg #[.slice none 0 0, .slice none 0 0], .int .i64 11]) ∧ Below w.heap.size w w' := by
  have k0 := box_below w (.cells #[.slice none 0 0, .slice none 0 0] 25)
  have J0 := h.below k0 (Nat.le_refl _)
  have r0 := allocNew w (.cells #[.slice none 0 0, .slice none 0 0] 25)
  obtain ⟨x0, x1, x2, _, _, _⟩ := box3 J0.box
  obtain ⟨y0, y1, y2, y3⟩ := box2 r0
  have t1 : decide ((n : Int) < pr fs) = true := by simpa using hn
  go_enter Tryz.func61, Tryz.ntmps61
  go_wp2
  go_quiet (exact Calls.quiet_of_same (places_any (J0.below (below_drewN (Below.refl _ _) _) (Nat.le_refl _)) m0))
  have k1 := below_drewN k0 nq
  go_wp2
  (try simp only [Exit.inBlock, Exit.then])
  refine bodyPost_ret (v := .tuple #[.agg #[.slice none 0 0, .slice none 0 0], .int .i64 11]) (by rw [results_cell_tmp rfl]; go_simp) rfl ?_
  exact ⟨rfl, by first | exact k1 | exact below_set2 _ _ _ _ k1 (Nat.le_refl _) (Nat.le_refl _)⟩
end Go.Proofs.YtjpdjnkmipfmbaaGreat
