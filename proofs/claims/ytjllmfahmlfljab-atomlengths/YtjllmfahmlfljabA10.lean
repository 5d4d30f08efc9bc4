
/- Contract: a list of one number over and over, by package slices. -/

import Derived.Test.YtjllmfahmlfljabA9
import Derived.Laws.Bits64b
import Derived.Laws.CopyOwn
import Derived.IntWalk
import Derived.Deep.OwnRows





namespace Go.Proofs.Ytjllmfahmlfljab

open Go.RowKit

set_option linter.unusedVariables false

/-! ### math/bits.Mul64: the product of two words, by its halves -/

theorem wrapNn (a : Nat) (ha : a < 18446744073709551616) : IntKind.u64.wrap (a : Int) = (a : Int) := IntWalk.u64_in _ (by omega)
theorem and_mod (a : Nat) (ha : a < 18446744073709551616) : bits .and .u64 (a : Int) 4294967295 = (a : Int) % 4294967296 := by
  refine (bits_and_u64_nat a 4294967295 ha (by omega)).trans ?_
  rw [show (4294967295 : Nat) = 2 ^ 32 - 1 from rfl, Nat.and_two_pow_sub_one_eq_mod]
  omega
/-- Two numbers of two halves each: the product by the halves' products. -/
theorem by_halves (a b c d k : Nat) : (a * k + b) * (c * k + d) = a * c * (k * k) + a * d * k + b * c * k + b * d := by
  have e1 : a * k * (c * k) = a * c * (k * k) := Nat.mul_mul_mul_comm a k c k
  have e2 : a * k * d = a * d * k := Nat.mul_right_comm a k d
  have e3 : b * (c * k) = b * c * k := (Nat.mul_assoc b c k).symm
  simp only [Nat.add_mul, Nat.mul_add, e1, e2, e3]
  omega
theorem half_le {a b : Nat} (ha : a < 4294967296) (hb : b < 4294967296) : a * b ≤ 18446744065119617025 :=
  Nat.le_trans (Nat.mul_le_mul (show a ≤ 4294967295 by omega) (show b ≤ 4294967295 by omega)) (by decide)

theorem bitsMul64 (x y : Nat) (hx : x < 18446744073709551616) (hy : y < 18446744073709551616) (w : World) :
    Calls Try.prog 43 #[.int .u64 x, .int .u64 y] w fun e w' => e = .returned (.tuple #[.int .u64 ((x * y / 18446744073709551616 : Nat) : Int), .int .u64 ((x * y % 18446744073709551616 : Nat) : Int)]) ∧ w' = w := by
  have mx := and_mod x hx
  have my := and_mod y hy
  obtain ⟨a, ea⟩ : ∃ a, a = x / 4294967296 := ⟨_, rfl⟩
  obtain ⟨b, eb⟩ : ∃ b, b = x % 4294967296 := ⟨_, rfl⟩
  obtain ⟨c, ec⟩ : ∃ c, c = y / 4294967296 := ⟨_, rfl⟩
  obtain ⟨d, ed⟩ : ∃ d, d = y % 4294967296 := ⟨_, rfl⟩
  have h := by_halves a b c d 4294967296
  rw [show a * 4294967296 + b = x by omega, show c * 4294967296 + d = y by omega] at h
  rw [show (x : Int) % 4294967296 = (b : Int) by omega] at mx
  rw [show (y : Int) % 4294967296 = (d : Int) by omega] at my
  have dx : (x : Int) / 4294967296 = (a : Int) := by omega
  have dy : (y : Int) / 4294967296 = (c : Int) := by omega
  have l1 := half_le (a := a) (b := c) (by omega) (by omega)
  have l2 := half_le (a := a) (b := d) (by omega) (by omega)
  have l3 := half_le (a := b) (b := c) (by omega) (by omega)
  have l4 := half_le (a := b) (b := d) (by omega) (by omega)
  have q0 : (x : Int) * (y : Int) = ((x * y : Nat) : Int) := (Int.natCast_mul x y).symm
  have q1 : (a : Int) * (c : Int) = ((a * c : Nat) : Int) := (Int.natCast_mul a c).symm
  have q2 : (a : Int) * (d : Int) = ((a * d : Nat) : Int) := (Int.natCast_mul a d).symm
  have q3 : (b : Int) * (c : Int) = ((b * c : Nat) : Int) := (Int.natCast_mul b c).symm
  have q4 : (b : Int) * (d : Int) = ((b * d : Nat) : Int) := (Int.natCast_mul b d).symm
  generalize x * y = P at h q0 ⊢
  generalize a * c = p1 at h q1 l1
  generalize a * d = p2 at h q2 l2
  generalize b * c = p3 at h q3 l3
  generalize b * d = p4 at h q4 l4
  have HP : Hid (P = p1 * (4294967296 * 4294967296) + p2 * 4294967296 + p3 * 4294967296 + p4) := h
  have mt : bits .and .u64 ((p2 : Int) + (p4 : Int) / 4294967296) 4294967295 = ((p2 : Int) + (p4 : Int) / 4294967296) % 4294967296 := by
    have := and_mod (p2 + p4 / 4294967296) (by omega)
    rw [show ((p2 + p4 / 4294967296 : Nat) : Int) = (p2 : Int) + (p4 : Int) / 4294967296 by omega] at this
    exact this
  have wp : IntKind.u64.wrap (P : Int) = ((P % 18446744073709551616 : Nat) : Int) := by rw [IntKind.wrap_u64]; omega
  clear ea eb ec ed h
  go_enter Try.func43, Try.ntmps43
  go_wp2
  go_ret2
  have h := HP.out
  exact ⟨ret_two (by omega) (by first | rfl | omega), rfl⟩


/-- A row of m cells whose first k hold one number. -/
structure Fl (W : World) (g m k : Nat) (v : Int) : Prop where
  row : ∃ cur : List Value, W.heap[g]? = some (.cells cur.toArray 2 (0, 0)) ∧ cur.length = m ∧ ∀ j, j < k → cur[j]? = some (.int .i64 v)

theorem Fl.cell {W : World} {g m k : Nat} {v : Int} (h : Fl W g m k v) {j : Nat} (hj : j < k) : W.cell? ⟨g, j, none⟩ = some (.int .i64 v) := by
  obtain ⟨cur, h1, h2, h3⟩ := h.row
  rw [cell_of_row W g j _ _ (0, 0) h1]
  simpa using h3 j hj

theorem Fl.less {W : World} {g m k k' : Nat} {v : Int} (h : Fl W g m k v) (hk : k' ≤ k) : Fl W g m k' v := by
  obtain ⟨cur, h1, h2, h3⟩ := h.row
  exact ⟨cur, h1, h2, fun j hj => h3 j (by omega)⟩
theorem fill_src {W : World} {g m k cc : Nat} {v : Int} (h : Fl W g m k v) (hc : cc ≤ k) {j : Nat} {u : Value} (hu : (List.replicate cc (Value.int .i64 v))[j]? = some u) : W.cell? ((⟨g, 0, none⟩ : Addr).add j) = some u := by
  have hj : j < cc := by have := (List.getElem?_eq_some_iff.1 hu).1; simpa using this
  rw [List.getElem?_replicate_of_lt hj] at hu
  cases hu
  rw [add_at, Nat.zero_add]
  exact h.cell (by omega)
theorem splice_at {cur : List Value} {k c : Nat} {u : Value} (hk : k + c ≤ cur.length) (h : ∀ j, j < k → cur[j]? = some u) : ∀ j, j < k + c → (splice cur k (List.replicate c u))[j]? = some u := by
  intro j hj
  unfold splice
  by_cases hjk : j < k
  · rw [List.getElem?_append_left (by simp; omega), List.getElem?_take_of_lt hjk]; exact h j hjk
  · rw [List.getElem?_append_right (by simp; omega), List.getElem?_append_left (by simp; omega)]
    simp [List.getElem?_replicate]; omega

theorem ones (v : Int) (q : Nat) : ∀ u ∈ List.replicate q (Value.int .i64 v), u.oneCell' = true := by
  intro u hu
  rw [(List.mem_replicate.1 hu).2]; rfl
theorem infoL : (Try.prog.info? 2).map (·.size) = some 1 := by kernel_rfl
theorem infoL3 : (Try.prog.info? 2).map (fun i => (i.zero, i.size, i.bytes)) = some (some (.int .i64 0), 1, 8) := by kernel_rfl

/-- A copy into a row of one's own, when it is run. -/
theorem run_splice {w : World} (ty : TypeId) (dp sp : Option Addr) (dLen dCap sLen sCap g off : Nat) (cur : List Value) (hg : w.heap[g]? = some (.cells cur.toArray 2 (0, 0))) (cs : List Value) (hn : cs.length = Nat.min sLen dLen)
    (hpos : 0 < cs.length → dp = some ⟨g, off, none⟩ ∧ ∃ ad, sp = some ad ∧ ∀ j v, cs[j]? = some v → w.cell? (ad.add j) = some v) (hfit : off + cs.length ≤ cur.length) (h1 : ∀ v ∈ cs, v.oneCell' = true) (B : Nat) (w0 : World) (hb : Below B w0 w) (hBg : B ≤ g) :
    ∃ w', (Builtin.copy_ #[23, 23] ty #[.slice dp dLen dCap, .slice sp sLen sCap]).run Try.prog w = .ok (goInt cs.length) w' ∧ w'.heap[g]? = some (.cells (splice cur off cs).toArray 2 (0, 0)) ∧ Below B w0 w' := by
  by_cases h0 : cs.length = 0
  · obtain rfl : cs = [] := List.eq_nil_of_length_eq_zero h0
    exact ⟨w, run_copy_none w _ _ ty 2 dp sp dLen dCap sLen sCap Try.underlying23 infoL (by simpa using hn.symm), by simpa [splice] using hg, hb⟩
  · obtain ⟨rfl, ad, rfl, hsrc⟩ := hpos (by omega)
    exact ⟨_, run_copy_row (P := Try.prog) w _ _ ty 2 g off dLen dCap ad sLen sCap cur.toArray 2 cs Try.underlying23 infoL hg hn hsrc (by simpa using hfit) h1, by simpa [splice] using setRow_heap w g _ _ 2 _ hg, below_setRow hb hBg _⟩

theorem Fl.splice {W : World} {g m k c : Nat} {v : Int} {cur : List Value} (h : W.heap[g]? = some (.cells (Go.splice cur k (List.replicate c (.int .i64 v))).toArray 2 (0, 0))) (hl : cur.length = m) (hk : k + c ≤ m) (hc : ∀ j, j < k → cur[j]? = some (.int .i64 v)) : Fl W g m (k + c) v :=
  ⟨_, h, by rw [length_splice _ _ _ (by simp; omega)]; exact hl, splice_at (by omega) hc⟩
theorem Fl.ft {W : World} {B g m : Nat} {v : Int} (h : Fl W g m m v) (hB : B ≤ g) (hm : m ≤ 4096) (h1 : -9223372036854775808 ≤ v) (h2 : v ≤ 9223372036854775807) : Ft 2 W B (some ⟨g, 0, none⟩) m m (List.replicate m v) := by
  obtain ⟨cur, c1, c2, c3⟩ := h.row
  have hown : W.ownsRow B 2 1 (.slice (some ⟨g, 0, none⟩) m m) m ((List.replicate m v).map (Value.int .i64)) := by
    refine ⟨by simp, .inr ⟨g, m, cur.toArray, rfl, hB, c1, Nat.le_refl _, by unfold maxLen; omega, by simp [c2], ?_⟩⟩
    rw [Nat.mul_one]
    apply List.ext_getElem?
    intro i
    by_cases hi : i < m
    · rw [List.getElem?_take_of_lt hi]
      rw [c3 i hi]
      simp [hi]
    · rw [List.getElem?_eq_none (by simp; omega), List.getElem?_eq_none (by simp; omega)]
  obtain ⟨ao, cap, e, hf⟩ := Ft.mk' (zs := List.replicate m v) (by simp) (by omega) (fun k hk => by simp [nth, hk]; exact ⟨h1, h2⟩) hown
  cases e
  exact hf

end Go.Proofs.Ytjllmfahmlfljab
