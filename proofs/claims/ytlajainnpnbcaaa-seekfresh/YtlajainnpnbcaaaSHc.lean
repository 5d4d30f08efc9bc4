
/- What a shelf keeps. -/

import Derived.Test.YtlajainnpnbcaaaSHb

import Derived.Test.YtlajainnpnbcaaaPO0

namespace Go.Proofs.Ytlajainnpnbcaaa

open Go.RowKit

set_option linter.unusedVariables false

/-- The shelf's foot when the first i arrays are on it. -/
def Kf (w : World) (S : Nat → Prop) (X : List (Value × Value)) (i : Nat) (g : Nat) : Prop := S g ∨ w.heap.size ≤ g ∨ ∃ (j : Nat) (x : Value × Value), j < i ∧ X[j]? = some x ∧ (x.1.ownBlock = some g ∨ x.2.ownBlock = some g)
def Kp (w : World) (S : Nat → Prop) (sb : Nat) (X : List (Value × Value)) (i : Nat) (W : World) : Prop :=
  ∃ lo wo n lc wc sz xs ws zs, Sh W (Kf w S X i) sb lo wo n n lc wc sz xs ws zs ∧ Chg (fun g => S g ∨ w.heap.size ≤ g) w W
theorem Kf.mono {w : World} {S : Nat → Prop} {X : List (Value × Value)} {i i' : Nat} (h : i ≤ i') {g : Nat} (k : Kf w S X i g) : Kf w S X i' g := by
  rcases k with k | k | ⟨j, x, h1, h2⟩
  · exact .inl k
  · exact .inr (.inl k)
  · exact .inr (.inr ⟨j, x, by omega, h2⟩)
theorem kf_out {w : World} {S : Nat → Prop} {X : List (Value × Value)} {Z : List (List Int × List Int)} (hX : ∀ (i : Nat) (x : Value × Value), X[i]? = some x → ∃ z, Arw w x z) (hS : ∀ (i : Nat) (x : Value × Value), X[i]? = some x → Inn (fun g => ¬ S g) x) (hA : ∀ (i j : Nat) (x y : Value × Value), X[i]? = some x → X[j]? = some y → i ≠ j → Apt x y) {i : Nat} {x : Value × Value} (hi : X[i]? = some x) : Inn (fun g => ¬ Kf w S X i g) x := by
  obtain ⟨z, hz⟩ := hX i x hi
  refine ⟨fun g hg k => ?_, fun g hg k => ?_⟩
  · rcases k with k | k | ⟨j, y, h1, h2, h3⟩
    · exact (hS i x hi).1 g hg k
    · have := hz.lt.1 g hg; omega
    · obtain ⟨zy, hy⟩ := hX j y h2
      rcases h3 with h3 | h3
      · exact (hA i j x y hi h2 (by omega)).1 g hg h3
      · obtain ⟨cs, c1⟩ := hz.kinds.1 g hg
        obtain ⟨cs', c2⟩ := hy.kinds.2 g h3
        exact absurd (kindB c1 c2) (by decide)
  · rcases k with k | k | ⟨j, y, h1, h2, h3⟩
    · exact (hS i x hi).2 g hg k
    · have := hz.lt.2 g hg; omega
    · obtain ⟨zy, hy⟩ := hX j y h2
      rcases h3 with h3 | h3
      · obtain ⟨cs, c1⟩ := hz.kinds.2 g hg
        obtain ⟨cs', c2⟩ := hy.kinds.1 g h3
        exact absurd (kindB c1 c2) (by decide)
      · exact (hA i j x y hi h2 (by omega)).2 g hg h3
theorem kf_gl {w : World} {S : Nat → Prop} {X : List (Value × Value)} {gl : Nat} {cs : Array Value} (hX : ∀ (i : Nat) (x : Value × Value), X[i]? = some x → ∃ z, Arw w x z) (hg : w.heap[gl]? = some (.cells cs 36 (0, 0))) (hS : ¬ S gl) (i : Nat) : ¬ Kf w S X i gl := by
  intro k
  rcases k with k | k | ⟨j, y, h1, h2, h3⟩
  · exact hS k
  · have := (Array.getElem?_eq_some_iff.1 hg).1; omega
  · obtain ⟨zy, hy⟩ := hX j y h2
    rcases h3 with h3 | h3
    · obtain ⟨cs', c2⟩ := hy.kinds.1 gl h3
      exact absurd (kindB hg c2) (by decide)
    · obtain ⟨cs', c2⟩ := hy.kinds.2 gl h3
      exact absurd (kindB hg c2) (by decide)
theorem kf_kind {w W : World} {S : Nat → Prop} {X : List (Value × Value)} {i g : Nat} {e : TypeId} {cs : Array Value} (hX : ∀ (i : Nat) (x : Value × Value), X[i]? = some x → ∃ z, Arw w x z) (hS : ∀ (i : Nat) (x : Value × Value), X[i]? = some x → Inn (fun g => ¬ S g) x) (k : Chg (fun g => S g ∨ w.heap.size ≤ g) w W) (hg : W.heap[g]? = some (.cells cs e (0, 0))) (h1 : e ≠ 3) (h2 : e ≠ 2) (hk : Kf w S X i g) : S g ∨ w.heap.size ≤ g := by
  rcases hk with hk | hk | ⟨j, y, _, hy, h3⟩
  · exact .inl hk
  · exact .inr hk
  · obtain ⟨zy, hz⟩ := hX j y hy
    rcases h3 with h3 | h3
    · obtain ⟨cs', c1⟩ := hz.kinds.1 g h3
      have := k.at c1 fun hh => by rcases hh with hh | hh; (· exact (hS j y hy).1 g h3 hh); (· have := hz.lt.1 g h3; omega)
      exact absurd (kindB hg this) h1
    · obtain ⟨cs', c1⟩ := hz.kinds.2 g h3
      have := k.at c1 fun hh => by rcases hh with hh | hh; (· exact (hS j y hy).2 g h3 hh); (· have := hz.lt.2 g h3; omega)
      exact absurd (kindB hg this) h2
theorem kf_in {w : World} {S : Nat → Prop} {X : List (Value × Value)} {i : Nat} {x : Value × Value} (hi : X[i]? = some x) : Inn (Kf w S X (i + 1)) x :=
  ⟨fun g hg => .inr (.inr ⟨i, x, by omega, hi, .inl hg⟩), fun g hg => .inr (.inr ⟨i, x, by omega, hi, .inr hg⟩)⟩

set_option maxRecDepth 20000 in
set_option maxHeartbeats 8000000 in
theorem keep_any (sb gl : Nat) (S : Nat → Prop) (x0 x1 : Value × Value) (z0 z1 : List Int × List Int) (w : World) (h : Kp w S sb [x0, x1] 0 w)
    (hl : w.heap[gl]? = some (.cells #[x0.1, x0.2, x1.1, x1.2] 36 (0, 0))) (hgl : ¬ S gl) (hx0 : Arw w x0 z0) (hx1 : Arw w x1 z1) (hs0 : Inn (fun g => ¬ S g) x0) (hs1 : Inn (fun g => ¬ S g) x1) (h01 : Apt x0 x1) :
    Calls Try.prog 8 #[.pointer (some ⟨sb, 0, none⟩), .slice (some ⟨gl, 0, none⟩) 2 2] w fun e w' => e = .returned (.tuple #[]) ∧ ∃ i, i ≤ 2 ∧ Kp w S sb [x0, x1] i w' := by
  have HX : Hid (∀ (i : Nat) (x : Value × Value), [x0, x1][i]? = some x → ∃ z, Arw w x z) := fun i x hi => by
    match i, hi with
    | 0, hi => simp at hi; subst hi; exact ⟨_, hx0⟩
    | 1, hi => simp at hi; subst hi; exact ⟨_, hx1⟩
    | i + 2, hi => simp at hi
  have HS : Hid (∀ (i : Nat) (x : Value × Value), [x0, x1][i]? = some x → Inn (fun g => ¬ S g) x) := fun i x hi => by
    match i, hi with
    | 0, hi => simp at hi; subst hi; exact hs0
    | 1, hi => simp at hi; subst hi; exact hs1
    | i + 2, hi => simp at hi
  have HA : Hid (∀ (i j : Nat) (x y : Value × Value), [x0, x1][i]? = some x → [x0, x1][j]? = some y → i ≠ j → Apt x y) := fun i j x y hi hj hij => by
    match i, j, hi, hj with
    | 0, 0, _, _ => omega
    | 1, 1, _, _ => omega
    | 0, 1, hi, hj => simp at hi hj; subst hi hj; exact h01
    | 1, 0, hi, hj => simp at hi hj; subst hi hj; exact h01.symm
    | i + 2, _, hi, _ => simp at hi
    | 0, j + 2, _, hj => simp at hj
    | 1, j + 2, _, hj => simp at hj
  have HL : Hid (w.heap[gl]? = some (.cells #[x0.1, x0.2, x1.1, x1.2] 36 (0, 0)) ∧ ¬ S gl) := ⟨hl, hgl⟩
  have HC : Hid (∀ (V : World) (i : Nat) (x : Value × Value), V.heap[gl]? = some (.cells #[x0.1, x0.2, x1.1, x1.2] 36 (0, 0)) → [x0, x1][i]? = some x → V.cell? ⟨gl, i * 2, none⟩ = some x.1 ∧ V.cell? ⟨gl, i * 2 + 1, none⟩ = some x.2) := fun V i x hV hi => by
    match i, hi with
    | 0, hi => simp at hi; subst hi; exact ⟨(cell_of_row V gl 0 _ _ (0, 0) hV).trans rfl, (cell_of_row V gl 1 _ _ (0, 0) hV).trans rfl⟩
    | 1, hi => simp at hi; subst hi; exact ⟨(cell_of_row V gl 2 _ _ (0, 0) hV).trans rfl, (cell_of_row V gl 3 _ _ (0, 0) hV).trans rfl⟩
    | i + 2, hi => simp at hi
  clear hl hgl hx0 hx1 hs0 hs1 h01
  generalize hX : [x0, x1] = X at *
  have HX2 : Hid (∀ i, i < 2 → ∃ x, X[i]? = some x) := fun i hi => by
    subst hX
    match i, hi with
    | 0, _ => exact ⟨_, rfl⟩
    | 1, _ => exact ⟨_, rfl⟩
  clear hX
  go_enter Try.func8, Try.ntmps8
  go_wp2_with fail
  go_loopg [4] 2 (fun g s4 wr => ∃ I : Nat, I ≤ 2 ∧ g = 2 - I ∧ s4 = .int .i64 (I : Nat) ∧ Kp w S sb X I wr)
  case atStart => exact ⟨0, by omega, rfl, rfl, h⟩
  case round =>
    clear h
    obtain ⟨I, hI, rfl, rfl, hP⟩ := hrel
    have hP' := hP
    obtain ⟨lo, wo, n, lc, wc, sz, xs, ws, zs, hSh, hCh⟩ := hP
    obtain ⟨⟨b0, b1, b2⟩, bf⟩ := box3 hSh.box
    by_cases hlt : I < 2
    · by_cases hz : sz < 33554432
      · have t1 : decide ((I : Int) < 2) = true := by simp; omega
        have t1' : (I : Int) < 2 := by omega
        have t2 : decide (sz < 33554432) = true := by simp [hz]
        obtain ⟨x, hx⟩ := HX2.out I hlt
        obtain ⟨z, hxw⟩ := HX.out I x hx
        have hout := kf_out (Z := []) HX.out HS.out HA.out hx
        have hgl' := kf_gl HX.out HL.out.1 HL.out.2 I
        have L1 := hCh.at HL.out.1 fun hh => hgl' (by rcases hh with hh | hh; (· exact .inl hh); (· exact .inr (.inl hh)))
        have hxr := hxw.chg hCh (hout.mono fun g hg hh => hg (by rcases hh with hh | hh; (· exact .inl hh); (· exact .inr (.inl hh))))
        obtain ⟨l0, l1⟩ := HC.out wr I x L1 hx
        obtain ⟨xo, xn, xc, yo, yn, yc, rfl, f1, f2⟩ := hxr
        have fr1 := f1.rd.room
        have fr2 := f2.rd.room
        have hm0 := hSh.hm.1
        have w1 : IntKind.i64.wrap (sz + 800) = sz + 800 := by rw [IntKind.wrap_i64]; omega
        have w2 : IntKind.i64.wrap (16 * (xn : Int)) = 16 * (xn : Int) := by rw [IntKind.wrap_i64]; omega
        have w3 : IntKind.i64.wrap (16 * (yn : Int)) = 16 * (yn : Int) := by rw [IntKind.wrap_i64]; omega
        have w4 : IntKind.i64.wrap (sz + 800 + 16 * (xn : Int)) = sz + 800 + 16 * (xn : Int) := by rw [IntKind.wrap_i64]; omega
        have w5 : IntKind.i64.wrap (sz + 800 + 16 * (xn : Int) + 16 * (yn : Int)) = sz + 800 + 16 * (xn : Int) + 16 * (yn : Int) := by rw [IntKind.wrap_i64]; omega
        have HS0 : wr.drew.cell? ⟨sb, 2, none⟩ = some (.int .i64 sz) ∧ wr.drew.cell? ⟨gl, I * 2, none⟩ = some (.slice xo xn xc) ∧ wr.drew.cell? ⟨gl, I * 2 + 1, none⟩ = some (.slice yo yn yc) := ⟨b2, l0, l1⟩
        obtain ⟨hS0, K0⟩ := hSh.size (sz + 800 + 16 * (xn : Int) + 16 * (yn : Int)) (by omega) (by omega)
        have hS1 := hS0.below (Below.refl _ _).drew
        have K1 := K0.trans (Chg.of_below (Below.refl _ _).drew (Nat.le_refl _) _)
        have F2 := bf 2
        have HR : Hid (I < 2 ∧ sz < 33554432 ∧ (n : Int) * 800 ≤ sz) := ⟨hlt, hz, hm0⟩
        clear hz
        go_upto_region 3 with fail
        refine wp_region_R (fun V => V.cell? ⟨sb, 2, none⟩ = some (.int .i64 sz) ∧ V.cell? ⟨gl, I * 2, none⟩ = some (.slice xo xn xc) ∧ V.cell? ⟨gl, I * 2 + 1, none⟩ = some (.slice yo yn yc)) (fun i => i != 24) (by kernel_rfl) ?_
        refine wpAnyR_take (i := 0) (v := .pointer (some ⟨sb, 0, none⟩)) rfl (by kernel_rfl) (by kernel_rfl) (by kernel_rfl) (by kernel_rfl) (fun _ _ _ h => h) (Or.inl ⟨by rfl, fun V hV => ?_⟩) ?_ ?_
        · obtain ⟨g0, g1, g2⟩ := hV
          go_simp
        · exact HS0
        conv => arg 9; simp [Act.put]
        refine wpAnyR_take (i := 1) (v := .pointer (some ⟨sb, 0, none⟩)) rfl (by kernel_rfl) (by kernel_rfl) (by kernel_rfl) (by kernel_rfl) (fun _ _ _ h => h) (Or.inl ⟨by rfl, fun V hV => ?_⟩) ?_ ?_
        · obtain ⟨g0, g1, g2⟩ := hV
          go_simp
        · exact HS0
        conv => arg 9; simp [Act.put]
        refine wpAnyR_take (i := 2) (v := .pointer (some ⟨sb, 0, none⟩)) rfl (by kernel_rfl) (by kernel_rfl) (by kernel_rfl) (by kernel_rfl) (fun _ _ _ h => h) (Or.inl ⟨by rfl, fun V hV => ?_⟩) ?_ ?_
        · obtain ⟨g0, g1, g2⟩ := hV
          go_simp
        · exact HS0
        conv => arg 9; simp [Act.put]
        refine wpAnyR_take (i := 3) (v := .pointer (some ⟨sb, 2, none⟩)) rfl (by kernel_rfl) (by kernel_rfl) (by kernel_rfl) (by kernel_rfl) (fun _ _ _ h => h) (Or.inl ⟨by rfl, fun V hV => ?_⟩) ?_ ?_
        · obtain ⟨g0, g1, g2⟩ := hV
          go_simp
        · exact HS0
        conv => arg 9; simp [Act.put]
        refine wpAnyR_take (i := 4) (v := .int .i64 sz) rfl (by kernel_rfl) (by kernel_rfl) (by kernel_rfl) (by kernel_rfl) (fun _ _ _ h => h) (Or.inl ⟨by rfl, fun V hV => ?_⟩) ?_ ?_
        · obtain ⟨g0, g1, g2⟩ := hV
          go_simp
        · exact HS0
        conv => arg 9; simp [Act.put]
        refine wpAnyR_take (i := 5) (v := .int .i64 (sz + 800)) rfl (by kernel_rfl) (by kernel_rfl) (by kernel_rfl) (by kernel_rfl) (fun _ _ _ h => h) (Or.inl ⟨by rfl, fun V hV => ?_⟩) ?_ ?_
        · obtain ⟨g0, g1, g2⟩ := hV
          go_simp
        · exact HS0
        conv => arg 9; simp [Act.put]
        refine wpAnyR_take (i := 6) (v := .slice (some ⟨gl, 0, none⟩) 2 2) rfl (by kernel_rfl) (by kernel_rfl) (by kernel_rfl) (by kernel_rfl) (fun _ _ _ h => h) (Or.inl ⟨by rfl, fun V hV => ?_⟩) ?_ ?_
        · obtain ⟨g0, g1, g2⟩ := hV
          go_simp
        · exact HS0
        conv => arg 9; simp [Act.put]
        refine wpAnyR_take (i := 7) (v := .int .i64 (I : Int)) rfl (by kernel_rfl) (by kernel_rfl) (by kernel_rfl) (by kernel_rfl) (fun _ _ _ h => h) (Or.inl ⟨by rfl, fun V hV => ?_⟩) ?_ ?_
        · obtain ⟨g0, g1, g2⟩ := hV
          go_simp
        · exact HS0
        conv => arg 9; simp [Act.put]
        refine wpAnyR_take (i := 8) (v := .pointer (some ⟨gl, I * 2, none⟩)) rfl (by kernel_rfl) (by kernel_rfl) (by kernel_rfl) (by kernel_rfl) (fun _ _ _ h => h) (Or.inl ⟨by rfl, fun V hV => ?_⟩) ?_ ?_
        · obtain ⟨g0, g1, g2⟩ := hV
          go_simp
        · exact HS0
        conv => arg 9; simp [Act.put]
        refine wpAnyR_take (i := 9) (v := .pointer (some ⟨gl, I * 2, none⟩)) rfl (by kernel_rfl) (by kernel_rfl) (by kernel_rfl) (by kernel_rfl) (fun _ _ _ h => h) (Or.inl ⟨by rfl, fun V hV => ?_⟩) ?_ ?_
        · obtain ⟨g0, g1, g2⟩ := hV
          go_simp
        · exact HS0
        conv => arg 9; simp [Act.put]
        refine wpAnyR_take (i := 10) (v := .slice xo xn xc) rfl (by kernel_rfl) (by kernel_rfl) (by kernel_rfl) (by kernel_rfl) (fun _ _ _ h => h) (Or.inl ⟨by rfl, fun V hV => ?_⟩) ?_ ?_
        · obtain ⟨g0, g1, g2⟩ := hV
          go_simp
        · exact HS0
        conv => arg 9; simp [Act.put]
        refine wpAnyR_take (i := 11) (v := .int .i64 (xn : Int)) rfl (by kernel_rfl) (by kernel_rfl) (by kernel_rfl) (by kernel_rfl) (fun _ _ _ h => h) (Or.inl ⟨by rfl, fun V hV => ?_⟩) ?_ ?_
        · obtain ⟨g0, g1, g2⟩ := hV
          go_simp
        · exact HS0
        conv => arg 9; simp [Act.put]
        refine wpAnyR_take (i := 12) (v := .int .i64 (16 * (xn : Int))) rfl (by kernel_rfl) (by kernel_rfl) (by kernel_rfl) (by kernel_rfl) (fun _ _ _ h => h) (Or.inl ⟨by rfl, fun V hV => ?_⟩) ?_ ?_
        · obtain ⟨g0, g1, g2⟩ := hV
          go_simp
        · exact HS0
        conv => arg 9; simp [Act.put]
        refine wpAnyR_take (i := 13) (v := .int .i64 (sz + 800 + 16 * (xn : Int))) rfl (by kernel_rfl) (by kernel_rfl) (by kernel_rfl) (by kernel_rfl) (fun _ _ _ h => h) (Or.inl ⟨by rfl, fun V hV => ?_⟩) ?_ ?_
        · obtain ⟨g0, g1, g2⟩ := hV
          go_simp
        · exact HS0
        conv => arg 9; simp [Act.put]
        refine wpAnyR_take (i := 14) (v := .slice (some ⟨gl, 0, none⟩) 2 2) rfl (by kernel_rfl) (by kernel_rfl) (by kernel_rfl) (by kernel_rfl) (fun _ _ _ h => h) (Or.inl ⟨by rfl, fun V hV => ?_⟩) ?_ ?_
        · obtain ⟨g0, g1, g2⟩ := hV
          go_simp
        · exact HS0
        conv => arg 9; simp [Act.put]
        refine wpAnyR_take (i := 15) (v := .int .i64 (I : Int)) rfl (by kernel_rfl) (by kernel_rfl) (by kernel_rfl) (by kernel_rfl) (fun _ _ _ h => h) (Or.inl ⟨by rfl, fun V hV => ?_⟩) ?_ ?_
        · obtain ⟨g0, g1, g2⟩ := hV
          go_simp
        · exact HS0
        conv => arg 9; simp [Act.put]
        refine wpAnyR_take (i := 16) (v := .pointer (some ⟨gl, I * 2, none⟩)) rfl (by kernel_rfl) (by kernel_rfl) (by kernel_rfl) (by kernel_rfl) (fun _ _ _ h => h) (Or.inl ⟨by rfl, fun V hV => ?_⟩) ?_ ?_
        · obtain ⟨g0, g1, g2⟩ := hV
          go_simp
        · exact HS0
        conv => arg 9; simp [Act.put]
        refine wpAnyR_take (i := 17) (v := .pointer (some ⟨gl, I * 2 + 1, none⟩)) rfl (by kernel_rfl) (by kernel_rfl) (by kernel_rfl) (by kernel_rfl) (fun _ _ _ h => h) (Or.inl ⟨by rfl, fun V hV => ?_⟩) ?_ ?_
        · obtain ⟨g0, g1, g2⟩ := hV
          go_simp
        · exact HS0
        conv => arg 9; simp [Act.put]
        refine wpAnyR_take (i := 18) (v := .slice yo yn yc) rfl (by kernel_rfl) (by kernel_rfl) (by kernel_rfl) (by kernel_rfl) (fun _ _ _ h => h) (Or.inl ⟨by rfl, fun V hV => ?_⟩) ?_ ?_
        · obtain ⟨g0, g1, g2⟩ := hV
          go_simp
        · exact HS0
        conv => arg 9; simp [Act.put]
        refine wpAnyR_take (i := 19) (v := .int .i64 (yn : Int)) rfl (by kernel_rfl) (by kernel_rfl) (by kernel_rfl) (by kernel_rfl) (fun _ _ _ h => h) (Or.inl ⟨by rfl, fun V hV => ?_⟩) ?_ ?_
        · obtain ⟨g0, g1, g2⟩ := hV
          go_simp
        · exact HS0
        conv => arg 9; simp [Act.put]
        refine wpAnyR_take (i := 20) (v := .int .i64 (16 * (yn : Int))) rfl (by kernel_rfl) (by kernel_rfl) (by kernel_rfl) (by kernel_rfl) (fun _ _ _ h => h) (Or.inl ⟨by rfl, fun V hV => ?_⟩) ?_ ?_
        · obtain ⟨g0, g1, g2⟩ := hV
          go_simp
        · exact HS0
        conv => arg 9; simp [Act.put]
        refine wpAnyR_take (i := 21) (v := .int .i64 (sz + 800 + 16 * (xn : Int) + 16 * (yn : Int))) rfl (by kernel_rfl) (by kernel_rfl) (by kernel_rfl) (by kernel_rfl) (fun _ _ _ h => h) (Or.inl ⟨by rfl, fun V hV => ?_⟩) ?_ ?_
        · obtain ⟨g0, g1, g2⟩ := hV
          go_simp
        · exact HS0
        conv => arg 9; simp [Act.put]
        refine wpAnyR_one (i := 22) (by kernel_rfl) rfl (fun K hK => ?_)
        go_simp
        refine hK _ _ ⟨fun _ => HS0, ?_⟩
        clear hK
        conv => arg 9; simp [Act.put]
        refine wpAnyR_one (i := 23) (by kernel_rfl) rfl (fun K hK => ?_)
        go_simp
        refine hK _ _ ⟨fun _ => HS0, ?_⟩
        clear hK
        conv => arg 9; simp [Act.put]
        refine wpAnyR_one (i := 24) (by kernel_rfl) rfl (fun K hK => ?_)
        go_simp
        refine hK _ _ ⟨fun h => absurd h (by decide), ?_⟩
        clear hK
        refine wpAnyR_done (by kernel_rfl) ?_ _
        have hz2 : ((n + 1 : Nat) : Int) * 800 ≤ sz + 800 + 16 * (xn : Int) + 16 * (yn : Int) := by have := HR.out.2.2; omega
        have hn2 : n + 1 ≤ 41944 := by have := HR.out.2.1; have := HR.out.2.2; omega
        have hx1' : Arw wr (.slice xo xn xc, .slice yo yn yc) z := ⟨_, _, _, _, _, _, rfl, f1, f2⟩
        have hx1 := hx1'.chg K1 (hSh.nobox2 hx1')
        have L2 := K1.at L1 fun e => by subst e; exact absurd (kindB L1 hSh.box) (by decide)
        have C1 : Chg (fun g => S g ∨ w.heap.size ≤ g) w (wr.setCell ⟨sb, 2, none⟩ (.int .i64 (sz + 800 + 16 * (xn : Int) + 16 * (yn : Int)))).drew := hCh.trans (K1.mono fun g _ e => by subst e; exact kf_kind HX.out HS.out hCh hSh.box (by decide) (by decide) hSh.fb)
        have hout1 : Inn (fun g => ¬ Kf w S X I g) (Value.slice xo xn xc, Value.slice yo yn yc) := hout
        clear HS0 K0 hS0 K1 w1 w2 w3 w4 w5 b0 b1 b2 bf F2 hSh hCh hxw L1 f1 f2 hx1' hout l0 l1 hP'
        generalize (wr.setCell ⟨sb, 2, none⟩ (.int .i64 (sz + 800 + 16 * (xn : Int) + 16 * (yn : Int)))).drew = W1 at *
        generalize sz + 800 + 16 * (xn : Int) + 16 * (yn : Int) = s1 at *
        obtain ⟨⟨b0, b1, b2⟩, bf⟩ := box3 hS1.box
        obtain ⟨l0, l1⟩ := HC.out W1 I _ L2 hx
        have bA : Below W1.heap.size W1 (W1.alloc (.cells #[.slice xo xn xc, .slice yo yn yc] 36)).drew := (box_below W1 _).drew
        have nA := allocNew W1 (.cells #[.slice xo xn xc, .slice yo yn yc] 36)
        have HS0 : W1.drew.cell? ⟨sb, 0, none⟩ = some (.slice lo n lc) ∧ W1.drew.cell? ⟨gl, I * 2, none⟩ = some (.slice xo xn xc) ∧ W1.drew.cell? ⟨gl, I * 2 + 1, none⟩ = some (.slice yo yn yc) := ⟨b0, l0, l1⟩
        have hSA := hS1.below bA
        have LA : (W1.alloc (.cells #[.slice xo xn xc, .slice yo yn yc] 36)).drew.heap[gl]? = _ := (bA.block gl (Array.getElem?_eq_some_iff.1 L2).1).trans L2
        have HSA : (W1.alloc (.cells #[.slice xo xn xc, .slice yo yn yc] 36)).drew.cell? ⟨sb, 0, none⟩ = some (.slice lo n lc) ∧ (W1.alloc (.cells #[.slice xo xn xc, .slice yo yn yc] 36)).drew.cell? ⟨gl, I * 2, none⟩ = some (.slice xo xn xc) ∧ (W1.alloc (.cells #[.slice xo xn xc, .slice yo yn yc] 36)).drew.cell? ⟨gl, I * 2 + 1, none⟩ = some (.slice yo yn yc) := ⟨(box3 hSA.box).1.1, HC.out _ I _ LA hx⟩
        have cA0 : (W1.alloc (.cells #[.slice xo xn xc, .slice yo yn yc] 36)).drew.cell? ⟨W1.heap.size, 0, none⟩ = some (.slice xo xn xc) := (cell_of_row _ _ 0 _ 36 (0, 0) nA).trans rfl
        have cA1 : (W1.alloc (.cells #[.slice xo xn xc, .slice yo yn yc] 36)).drew.cell? ⟨W1.heap.size, 1, none⟩ = some (.slice yo yn yc) := (cell_of_row _ _ 1 _ 36 (0, 0) nA).trans rfl
        have glne : (Value.slice lo n lc).ownBlock ≠ some gl := fun e => kf_gl HX.out HL.out.1 HL.out.2 I (hS1.fl gl e)
        clear b0 b1 b2 bf
        go_upto_region 4 with fail
        refine wp_region_R (fun V => V.cell? ⟨sb, 0, none⟩ = some (.slice lo n lc) ∧ V.cell? ⟨gl, I * 2, none⟩ = some (.slice xo xn xc) ∧ V.cell? ⟨gl, I * 2 + 1, none⟩ = some (.slice yo yn yc)) (fun i => i != 13) (by kernel_rfl) ?_
        refine wpAnyR_take (i := 0) (v := .pointer (some ⟨sb, 0, none⟩)) rfl (by kernel_rfl) (by kernel_rfl) (by kernel_rfl) (by kernel_rfl) (fun _ _ _ h => h) (Or.inl ⟨by rfl, fun V hV => ?_⟩) ?_ ?_
        · obtain ⟨g0, g1, g2⟩ := hV
          go_simp
        · exact HS0
        conv => arg 9; simp [Act.put]
        refine wpAnyR_take (i := 1) (v := .pointer (some ⟨sb, 0, none⟩)) rfl (by kernel_rfl) (by kernel_rfl) (by kernel_rfl) (by kernel_rfl) (fun _ _ _ h => h) (Or.inl ⟨by rfl, fun V hV => ?_⟩) ?_ ?_
        · obtain ⟨g0, g1, g2⟩ := hV
          go_simp
        · exact HS0
        conv => arg 9; simp [Act.put]
        refine wpAnyR_take (i := 2) (v := .pointer (some ⟨sb, 0, none⟩)) rfl (by kernel_rfl) (by kernel_rfl) (by kernel_rfl) (by kernel_rfl) (fun _ _ _ h => h) (Or.inl ⟨by rfl, fun V hV => ?_⟩) ?_ ?_
        · obtain ⟨g0, g1, g2⟩ := hV
          go_simp
        · exact HS0
        conv => arg 9; simp [Act.put]
        refine wpAnyR_take (i := 3) (v := .pointer (some ⟨sb, 0, none⟩)) rfl (by kernel_rfl) (by kernel_rfl) (by kernel_rfl) (by kernel_rfl) (fun _ _ _ h => h) (Or.inl ⟨by rfl, fun V hV => ?_⟩) ?_ ?_
        · obtain ⟨g0, g1, g2⟩ := hV
          go_simp
        · exact HS0
        conv => arg 9; simp [Act.put]
        refine wpAnyR_take (i := 4) (v := .slice lo n lc) rfl (by kernel_rfl) (by kernel_rfl) (by kernel_rfl) (by kernel_rfl) (fun _ _ _ h => h) (Or.inl ⟨by rfl, fun V hV => ?_⟩) ?_ ?_
        · obtain ⟨g0, g1, g2⟩ := hV
          go_simp
        · exact HS0
        conv => arg 9; simp [Act.put]
        refine wpAnyR_take (i := 5) (v := .slice (some ⟨gl, 0, none⟩) 2 2) rfl (by kernel_rfl) (by kernel_rfl) (by kernel_rfl) (by kernel_rfl) (fun _ _ _ h => h) (Or.inl ⟨by rfl, fun V hV => ?_⟩) ?_ ?_
        · obtain ⟨g0, g1, g2⟩ := hV
          go_simp
        · exact HS0
        conv => arg 9; simp [Act.put]
        refine wpAnyR_take (i := 6) (v := .int .i64 (I : Int)) rfl (by kernel_rfl) (by kernel_rfl) (by kernel_rfl) (by kernel_rfl) (fun _ _ _ h => h) (Or.inl ⟨by rfl, fun V hV => ?_⟩) ?_ ?_
        · obtain ⟨g0, g1, g2⟩ := hV
          go_simp
        · exact HS0
        conv => arg 9; simp [Act.put]
        refine wpAnyR_take (i := 7) (v := .pointer (some ⟨gl, I * 2, none⟩)) rfl (by kernel_rfl) (by kernel_rfl) (by kernel_rfl) (by kernel_rfl) (fun _ _ _ h => h) (Or.inl ⟨by rfl, fun V hV => ?_⟩) ?_ ?_
        · obtain ⟨g0, g1, g2⟩ := hV
          go_simp
        · exact HS0
        conv => arg 9; simp [Act.put]
        refine wpAnyR_take (i := 8) (v := .agg #[.slice xo xn xc, .slice yo yn yc]) rfl (by kernel_rfl) (by kernel_rfl) (by kernel_rfl) (by kernel_rfl) (fun _ _ _ h => h) (Or.inl ⟨by rfl, fun V hV => ?_⟩) ?_ ?_
        · obtain ⟨g0, g1, g2⟩ := hV
          go_simp
        · exact HS0
        conv => arg 9; simp [Act.put]
        refine wpAnyR_one (i := 9) (by kernel_rfl) rfl (fun K hK => ?_)
        go_simp
        refine hK _ _ ⟨fun _ => HSA, ?_⟩
        clear hK
        conv => arg 9; simp [Act.put]
        refine wpAnyR_one (i := 10) (by kernel_rfl) rfl (fun K hK => ?_)
        refine step_push2 (t := 30) Try.underlying30 rfl (.tmp 46) (.tmp 51) rfl (.slice lo n lc) n (fltH xs) (by simp [Act.eval]) hSA.all W1.heap.size (by simp [Act.eval]) (.slice xo xn xc, .slice yo yn yc) cA0 cA1 rfl rfl (by omega) ?_
        intro v9 W9 r9 g9 a9
        obtain ⟨lo', lc', rfl, hS2, K2⟩ := Sh.pushX (S' := Kf w S X (I + 1)) hS1 hx1 hout1 bA r9 g9 a9 hz2 hn2 (fun g hg => hg.mono (by omega)) (fun g hg => .inr (.inl (Nat.le_trans C1.size hg))) (kf_in hx)
        have B9 : W9.heap[sb]? = some (.cells #[.slice lo n lc, .slice wo n wc, .int .i64 s1] 32 (0, 0)) := (Chg.of_grown g9).at hSA.box fun e => by obtain ⟨cs, hc⟩ := ownB hSA.all e; exact absurd (kindB hSA.box hc) (by decide)
        have L9 : W9.heap[gl]? = _ := (Chg.of_grown g9).at LA fun e => glne e
        have HS9 : W9.cell? ⟨sb, 0, none⟩ = some (.slice lo n lc) ∧ W9.cell? ⟨gl, I * 2, none⟩ = some (.slice xo xn xc) ∧ W9.cell? ⟨gl, I * 2 + 1, none⟩ = some (.slice yo yn yc) := ⟨(box3 B9).1.1, HC.out _ I _ L9 hx⟩
        have F9 := (box3 B9).2 0
        refine hK _ _ ⟨fun _ => HS9, ?_⟩
        clear hK
        conv => arg 9; simp [Act.put]
        refine wpAnyR_one (i := 11) (by kernel_rfl) rfl (fun K hK => ?_)
        go_simp
        refine hK _ _ ⟨fun _ => HS9, ?_⟩
        clear hK
        conv => arg 9; simp [Act.put]
        refine wpAnyR_one (i := 12) (by kernel_rfl) rfl (fun K hK => ?_)
        go_simp
        refine hK _ _ ⟨fun _ => HS9, ?_⟩
        clear hK
        conv => arg 9; simp [Act.put]
        refine wpAnyR_one (i := 13) (by kernel_rfl) rfl (fun K hK => ?_)
        go_simp
        refine hK _ _ ⟨fun h => absurd h (by decide), ?_⟩
        clear hK
        refine wpAnyR_done (by kernel_rfl) ?_ _
        have hLn : (xs ++ [(Value.slice xo xn xc, Value.slice yo yn yc)])[n]? = some (Value.slice xo xn xc, Value.slice yo yn yc) := by rw [← hS1.xl]; simp
        have hZn : (zs ++ [z])[n]? = some z := by rw [← hS1.zl]; simp
        have L3 : (W9.setCell ⟨sb, 0, none⟩ (.slice lo' (n + 1) lc')).heap[gl]? = _ := (Chg.of_grown (set1 W9 sb 0 (.slice lo' (n + 1) lc'))).at L9 fun e => by injection e with e; subst e; exact absurd (kindB L9 B9) (by decide)
        have C2 := C1.trans (K2.mono fun g hg e => by rcases e with e | e; (· obtain ⟨cs, hc⟩ := ownB hS1.all e; exact kf_kind HX.out HS.out C1 hc (by decide) (by decide) (hS1.fl g e)); (· subst e; exact kf_kind HX.out HS.out C1 hS1.box (by decide) (by decide) hS1.fb))
        clear HS0 HSA HS9 F9 cA0 cA1 hSA nA bA g9 a9 r9 B9 L9 LA l0 l1 hx1 hS1 glne C1 K2 hout1 L2
        generalize W9.setCell ⟨sb, 0, none⟩ (.slice lo' (n + 1) lc') = W2 at *
        obtain ⟨z', hz', hx2⟩ := hS2.rx n _ hLn
        obtain rfl : z' = z := Option.some.inj (hz'.symm.trans hZn)
        have hS2t := hS2.trim
        obtain ⟨⟨b0, b1, b2⟩, bf⟩ := box3 hS2.box
        obtain ⟨l0, l1⟩ := HC.out W2 I _ L3 hx
        obtain ⟨xo', xn', xc', yo', yn', yc', e', f1, f2⟩ := hx2
        injection e' with e1 e2
        injection e1 with e3 e4 e5
        injection e2 with e6 e7 e8
        subst e3 e4 e5 e6 e7 e8
        have cO := own3_any xo yo xn xc yn yc z'.1 z'.2 W2.drew (f1.rd.below (Below.refl W2.heap.size W2).drew (Nat.le_refl _)) f1.sl (f2.rd.below (Below.refl W2.heap.size W2).drew (Nat.le_refl _)) f2.sl
        have HS0 : W2.drew.cell? ⟨sb, 1, none⟩ = some (.slice wo n wc) ∧ W2.drew.cell? ⟨gl, I * 2, none⟩ = some (.slice xo xn xc) ∧ W2.drew.cell? ⟨gl, I * 2 + 1, none⟩ = some (.slice yo yn yc) := ⟨b1, l0, l1⟩
        clear b0 b1 b2 bf hz' hLn hS2
        go_upto_region 5 with fail
        refine wp_region_R (fun V => V.cell? ⟨sb, 1, none⟩ = some (.slice wo n wc) ∧ V.cell? ⟨gl, I * 2, none⟩ = some (.slice xo xn xc) ∧ V.cell? ⟨gl, I * 2 + 1, none⟩ = some (.slice yo yn yc)) (fun i => i != 14) (by kernel_rfl) ?_
        refine wpAnyR_take (i := 0) (v := .pointer (some ⟨sb, 0, none⟩)) rfl (by kernel_rfl) (by kernel_rfl) (by kernel_rfl) (by kernel_rfl) (fun _ _ _ h => h) (Or.inl ⟨by rfl, fun V hV => ?_⟩) ?_ ?_
        · obtain ⟨g0, g1, g2⟩ := hV
          go_simp
        · exact HS0
        conv => arg 9; simp [Act.put]
        refine wpAnyR_take (i := 1) (v := .pointer (some ⟨sb, 0, none⟩)) rfl (by kernel_rfl) (by kernel_rfl) (by kernel_rfl) (by kernel_rfl) (fun _ _ _ h => h) (Or.inl ⟨by rfl, fun V hV => ?_⟩) ?_ ?_
        · obtain ⟨g0, g1, g2⟩ := hV
          go_simp
        · exact HS0
        conv => arg 9; simp [Act.put]
        refine wpAnyR_take (i := 2) (v := .pointer (some ⟨sb, 0, none⟩)) rfl (by kernel_rfl) (by kernel_rfl) (by kernel_rfl) (by kernel_rfl) (fun _ _ _ h => h) (Or.inl ⟨by rfl, fun V hV => ?_⟩) ?_ ?_
        · obtain ⟨g0, g1, g2⟩ := hV
          go_simp
        · exact HS0
        conv => arg 9; simp [Act.put]
        refine wpAnyR_take (i := 3) (v := .pointer (some ⟨sb, 1, none⟩)) rfl (by kernel_rfl) (by kernel_rfl) (by kernel_rfl) (by kernel_rfl) (fun _ _ _ h => h) (Or.inl ⟨by rfl, fun V hV => ?_⟩) ?_ ?_
        · obtain ⟨g0, g1, g2⟩ := hV
          go_simp
        · exact HS0
        conv => arg 9; simp [Act.put]
        refine wpAnyR_take (i := 4) (v := .slice wo n wc) rfl (by kernel_rfl) (by kernel_rfl) (by kernel_rfl) (by kernel_rfl) (fun _ _ _ h => h) (Or.inl ⟨by rfl, fun V hV => ?_⟩) ?_ ?_
        · obtain ⟨g0, g1, g2⟩ := hV
          go_simp
        · exact HS0
        conv => arg 9; simp [Act.put]
        refine wpAnyR_take (i := 5) (v := .slice (some ⟨gl, 0, none⟩) 2 2) rfl (by kernel_rfl) (by kernel_rfl) (by kernel_rfl) (by kernel_rfl) (fun _ _ _ h => h) (Or.inl ⟨by rfl, fun V hV => ?_⟩) ?_ ?_
        · obtain ⟨g0, g1, g2⟩ := hV
          go_simp
        · exact HS0
        conv => arg 9; simp [Act.put]
        refine wpAnyR_take (i := 6) (v := .int .i64 (I : Int)) rfl (by kernel_rfl) (by kernel_rfl) (by kernel_rfl) (by kernel_rfl) (fun _ _ _ h => h) (Or.inl ⟨by rfl, fun V hV => ?_⟩) ?_ ?_
        · obtain ⟨g0, g1, g2⟩ := hV
          go_simp
        · exact HS0
        conv => arg 9; simp [Act.put]
        refine wpAnyR_take (i := 7) (v := .pointer (some ⟨gl, I * 2, none⟩)) rfl (by kernel_rfl) (by kernel_rfl) (by kernel_rfl) (by kernel_rfl) (fun _ _ _ h => h) (Or.inl ⟨by rfl, fun V hV => ?_⟩) ?_ ?_
        · obtain ⟨g0, g1, g2⟩ := hV
          go_simp
        · exact HS0
        conv => arg 9; simp [Act.put]
        refine wpAnyR_take (i := 8) (v := .agg #[.slice xo xn xc, .slice yo yn yc]) rfl (by kernel_rfl) (by kernel_rfl) (by kernel_rfl) (by kernel_rfl) (fun _ _ _ h => h) (Or.inl ⟨by rfl, fun V hV => ?_⟩) ?_ ?_
        · obtain ⟨g0, g1, g2⟩ := hV
          go_simp
        · exact HS0
        conv => arg 9; simp [Act.put]
        refine wpAnyR_one (i := 9) (by kernel_rfl) rfl (fun K hK => ?_)
        go_simp
        go_at_call 6
        refine cO.mono ?_
        rintro e w5 ⟨o1, c1, o2, c2, rfl, p1, p2, b5⟩
        have b5' : Below W2.heap.size W2 w5 := (Below.refl W2.heap.size W2).drew.trans b5
        have hS5 := hS2t.below b5'
        have L5 : w5.heap[gl]? = _ := (b5'.block gl (Array.getElem?_eq_some_iff.1 L3).1).trans L3
        have HS5 : w5.cell? ⟨sb, 1, none⟩ = some (.slice wo n wc) ∧ w5.cell? ⟨gl, I * 2, none⟩ = some (.slice xo xn xc) ∧ w5.cell? ⟨gl, I * 2 + 1, none⟩ = some (.slice yo yn yc) := ⟨(box3 hS5.box).1.2.1, HC.out _ I _ L5 hx⟩
        have x5 : Arw w5 (.slice o1 xn c1, .slice o2 yn c2) z' := ⟨_, _, _, _, _, _, rfl, p1.mono (Nat.zero_le _), p2.mono (Nat.zero_le _)⟩
        have x5n : Inn (fun g => ¬ (Kf w S X (I + 1) g ∧ g < W2.heap.size)) (Value.slice o1 xn c1, Value.slice o2 yn c2) := ⟨fun g hg hh => by have := (p1.own.lt g hg).1; have h2 := hh.2; simp at this; omega, fun g hg hh => by have := (p2.own.lt g hg).1; have h2 := hh.2; simp at this; omega⟩
        have x5i : Inn (Kf w S X (I + 1)) (Value.slice o1 xn c1, Value.slice o2 yn c2) := ⟨fun g hg => .inr (.inl (by have := (p1.own.lt g hg).1; have := C2.size; simp at *; omega)), fun g hg => .inr (.inl (by have := (p2.own.lt g hg).1; have := C2.size; simp at *; omega))⟩
        have bA : Below w5.heap.size w5 (w5.alloc (.cells #[.slice o1 xn c1, .slice o2 yn c2] 36)) := box_below w5 _
        have nA := allocNew w5 (.cells #[.slice o1 xn c1, .slice o2 yn c2] 36)
        have hSA := hS5.below bA
        have LA : (w5.alloc (.cells #[.slice o1 xn c1, .slice o2 yn c2] 36)).heap[gl]? = _ := (bA.block gl (Array.getElem?_eq_some_iff.1 L5).1).trans L5
        have HSA : (w5.alloc (.cells #[.slice o1 xn c1, .slice o2 yn c2] 36)).cell? ⟨sb, 1, none⟩ = some (.slice wo n wc) ∧ (w5.alloc (.cells #[.slice o1 xn c1, .slice o2 yn c2] 36)).cell? ⟨gl, I * 2, none⟩ = some (.slice xo xn xc) ∧ (w5.alloc (.cells #[.slice o1 xn c1, .slice o2 yn c2] 36)).cell? ⟨gl, I * 2 + 1, none⟩ = some (.slice yo yn yc) := ⟨(box3 hSA.box).1.2.1, HC.out _ I _ LA hx⟩
        have cA0 : (w5.alloc (.cells #[.slice o1 xn c1, .slice o2 yn c2] 36)).cell? ⟨w5.heap.size, 0, none⟩ = some (.slice o1 xn c1) := (cell_of_row _ _ 0 _ 36 (0, 0) nA).trans rfl
        have cA1 : (w5.alloc (.cells #[.slice o1 xn c1, .slice o2 yn c2] 36)).cell? ⟨w5.heap.size, 1, none⟩ = some (.slice o2 yn c2) := (cell_of_row _ _ 1 _ 36 (0, 0) nA).trans rfl
        have glne : (Value.slice wo n wc).ownBlock ≠ some gl := fun e => kf_gl HX.out HL.out.1 HL.out.2 (I + 1) (hS5.fw gl e).1
        refine hK _ _ ⟨fun _ => HS5, ?_⟩
        clear hK
        conv => arg 9; simp [Act.put]
        refine wpAnyR_one (i := 10) (by kernel_rfl) rfl (fun K hK => ?_)
        go_simp
        refine hK _ _ ⟨fun _ => HSA, ?_⟩
        clear hK
        conv => arg 9; simp [Act.put]
        refine wpAnyR_one (i := 11) (by kernel_rfl) rfl (fun K hK => ?_)
        refine step_push2 (t := 30) Try.underlying30 rfl (.tmp 59) (.tmp 65) rfl (.slice wo n wc) n (fltH ws) (by simp [Act.eval]) hSA.wer w5.heap.size (by simp [Act.eval]) (.slice o1 xn c1, .slice o2 yn c2) cA0 cA1 rfl rfl (by omega) ?_
        intro v9 W9 r9 g9 a9
        obtain ⟨wo', wc', rfl, hS3, K3⟩ := Sh.pushW (S' := Kf w S X (I + 1)) hS5 x5 x5n bA r9 g9 a9 hz2 hn2 hZn (fun g hg => hg.1) (fun g hg => .inr (.inl (Nat.le_trans C2.size (Nat.le_trans b5'.size hg)))) x5i
        have B9 : W9.heap[sb]? = some (.cells #[.slice lo' (n + 1) lc', .slice wo n wc, .int .i64 s1] 32 (0, 0)) := (Chg.of_grown g9).at hSA.box fun e => by obtain ⟨cs, hc⟩ := ownB hSA.wer e; exact absurd (kindB hSA.box hc) (by decide)
        have L9 : W9.heap[gl]? = _ := (Chg.of_grown g9).at LA fun e => glne e
        have HS9 : W9.cell? ⟨sb, 1, none⟩ = some (.slice wo n wc) ∧ W9.cell? ⟨gl, I * 2, none⟩ = some (.slice xo xn xc) ∧ W9.cell? ⟨gl, I * 2 + 1, none⟩ = some (.slice yo yn yc) := ⟨(box3 B9).1.2.1, HC.out _ I _ L9 hx⟩
        have F9 := (box3 B9).2 1
        refine hK _ _ ⟨fun _ => HS9, ?_⟩
        clear hK
        conv => arg 9; simp [Act.put]
        refine wpAnyR_one (i := 12) (by kernel_rfl) rfl (fun K hK => ?_)
        go_simp
        refine hK _ _ ⟨fun _ => HS9, ?_⟩
        clear hK
        conv => arg 9; simp [Act.put]
        refine wpAnyR_one (i := 13) (by kernel_rfl) rfl (fun K hK => ?_)
        go_simp
        refine hK _ _ ⟨fun _ => HS9, ?_⟩
        clear hK
        conv => arg 9; simp [Act.put]
        refine wpAnyR_one (i := 14) (by kernel_rfl) rfl (fun K hK => ?_)
        go_simp
        refine hK _ _ ⟨fun h => absurd h (by decide), ?_⟩
        clear hK
        refine wpAnyR_done (by kernel_rfl) ?_ _
        have C5 := C2.trans (Chg.of_below b5' (Nat.le_refl _) _)
        have C3 : Chg (fun g => S g ∨ w.heap.size ≤ g) w (W9.setCell ⟨sb, 1, none⟩ (.slice wo' (n + 1) wc')) := C5.trans (K3.mono fun g hg e => by rcases e with e | e; (· obtain ⟨cs, hc⟩ := ownB hS5.wer e; exact kf_kind HX.out HS.out C5 hc (by decide) (by decide) (hS5.fw g e).1); (· subst e; exact kf_kind HX.out HS.out C5 hS5.box (by decide) (by decide) hS5.fb.1))
        clear HS0 HS5 HSA HS9 F9 cA0 cA1 hSA nA bA g9 a9 r9 B9 L9 LA l0 l1 glne K3 x5 x5n x5i hS5 L5 p1 p2 b5 b5' cO f1 f2 hS2t L3 C2 C5
        generalize W9.setCell ⟨sb, 1, none⟩ (.slice wo' (n + 1) wc') = W4 at *
        go_wp2
        go_roundg (2 - (I + 1))
        case measure => have := HR.out.1; omega
        case rel => exact ⟨I + 1, by have := HR.out.1; omega, rfl, (by have := HR.out.1; first | go_num | (refine congrArg (Value.int .i64) ?_; unfold wrap64; omega)), ⟨_, _, _, _, _, _, _, _, _, hS3, C3⟩⟩
      · have t1 : decide ((I : Int) < 2) = true := by simp; omega
        have t1' : (I : Int) < 2 := by omega
        have t2 : decide (sz < 33554432) = false := by simp; omega
        clear hz
        go_wp2
        (try simp only [Exit.inBlock, Exit.then])
        (first | refine bodyPost_end (v := .tuple #[]) (by simp [results, Try.results8]) rfl ?_ | refine bodyPost_ret (v := .tuple #[]) (by simp [results, Try.results8]) rfl ?_)
        exact ⟨rfl, I, hI, hP'⟩
    · have t1 : decide ((I : Int) < 2) = false := by simp; omega
      obtain rfl : I = 2 := by omega
      clear hlt
      go_wp2
      (try simp only [Exit.inBlock, Exit.then])
      (first | refine bodyPost_end (v := .tuple #[]) (by simp [results, Try.results8]) rfl ?_ | refine bodyPost_ret (v := .tuple #[]) (by simp [results, Try.results8]) rfl ?_)
      exact ⟨rfl, 2, by omega, hP'⟩
end Go.Proofs.Ytlajainnpnbcaaa
