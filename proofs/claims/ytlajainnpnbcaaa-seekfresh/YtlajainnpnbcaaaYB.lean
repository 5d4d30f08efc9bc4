
/- Contracts of the sort that package seek hands its places to: insertion, ranges changed, parts turned. -/

import Derived.Test.YtlajainnpnbcaaaBase

import Derived.Test.YtlajainnpnbcaaaA11

import Derived.Deep.RegionHeld3

import Derived.RegionTactic

namespace Go.Proofs.Ytlajainnpnbcaaa

set_option linter.unusedVariables false

/-- What is asked of a comparison over the places below N. -/
structure Cmp3 (N : Nat) (c : Int → Int → Int) : Prop where
  anti : ∀ x y : Int, 0 ≤ x → x < N → 0 ≤ y → y < N → c y x = - c x y
  trans : ∀ x y z : Int, 0 ≤ x → x < N → 0 ≤ y → y < N → 0 ≤ z → z < N → c x y ≤ 0 → c y z ≤ 0 → c x z ≤ 0
/-- x stands ahead of y: it is before, or the same with the lesser place. -/
def lx (c : Int → Int → Int) (x y : Int) : Prop := c x y < 0 ∨ (c x y = 0 ∧ x < y)
def inN (N : Nat) (zs : List Int) : Prop := ∀ k, k < zs.length → 0 ≤ nth zs k ∧ nth zs k < N
theorem lx_trans {N : Nat} {c : Int → Int → Int} (h : Cmp3 N c) {x y z : Int} (x0 : 0 ≤ x ∧ x < N) (y0 : 0 ≤ y ∧ y < N) (z0 : 0 ≤ z ∧ z < N) (a : lx c x y) (b : lx c y z) : lx c x z := by
  have t := h.trans x y z x0.1 x0.2 y0.1 y0.2 z0.1 z0.2
  have t2 := h.trans y z x y0.1 y0.2 z0.1 z0.2 x0.1 x0.2
  have t3 := h.trans z x y z0.1 z0.2 x0.1 x0.2 y0.1 y0.2
  have a1 := h.anti x y x0.1 x0.2 y0.1 y0.2
  have a2 := h.anti y z y0.1 y0.2 z0.1 z0.2
  have a3 := h.anti x z x0.1 x0.2 z0.1 z0.2
  unfold lx at *
  omega
theorem lx_not {N : Nat} {c : Int → Int → Int} (h : Cmp3 N c) {x y : Int} (x0 : 0 ≤ x ∧ x < N) (y0 : 0 ≤ y ∧ y < N) (hxy : x < y) (a : ¬ c y x < 0) : lx c x y := by
  have a1 := h.anti x y x0.1 x0.2 y0.1 y0.2
  unfold lx; omega
theorem lx_irr {N : Nat} {c : Int → Int → Int} (h : Cmp3 N c) {x : Int} (x0 : 0 ≤ x ∧ x < N) (a : lx c x x) : False := by
  have a1 := h.anti x x x0.1 x0.2 x0.1 x0.2
  unfold lx at a; omega
/-- From a to b the row rises. -/
def So (c : Int → Int → Int) (zs : List Int) (a b : Nat) : Prop := ∀ i j, a ≤ i → i < j → j < b → lx c (nth zs i) (nth zs j)
/-- What stands from a to m is less, as a place, than what stands from m to b. -/
def Le2 (zs : List Int) (a m b : Nat) : Prop := ∀ i j, a ≤ i → i < m → m ≤ j → j < b → nth zs i < nth zs j
/-- Within a to b the row holds what it held; beyond it is as it was. -/
structure PmQ (zs ys : List Int) (a b : Nat) : Prop where
  len : ys.length = zs.length
  out : ∀ j, ¬ (a ≤ j ∧ j < b) → nth ys j = nth zs j
  ins : ∀ j, a ≤ j → j < b → ∃ i, a ≤ i ∧ i < b ∧ nth ys j = nth zs i
theorem PmQ.refl (zs : List Int) (a b : Nat) : PmQ zs zs a b := ⟨rfl, fun _ _ => rfl, fun j h1 h2 => ⟨j, h1, h2, rfl⟩⟩
theorem PmQ.wide {zs ys : List Int} {a b a' b' : Nat} (h : PmQ zs ys a b) (ha : a' ≤ a) (hb : b ≤ b') : PmQ zs ys a' b' := by
  refine ⟨h.len, fun j hj => h.out j (by omega), fun j h1 h2 => ?_⟩
  by_cases hj : a ≤ j ∧ j < b
  · obtain ⟨i, i1, i2, e⟩ := h.ins j hj.1 hj.2
    exact ⟨i, by omega, by omega, e⟩
  · exact ⟨j, h1, h2, h.out j hj⟩
theorem PmQ.trans {zs ys xs : List Int} {a b : Nat} (h : PmQ zs ys a b) (g : PmQ ys xs a b) : PmQ zs xs a b := by
  refine ⟨g.len.trans h.len, fun j hj => (g.out j hj).trans (h.out j hj), fun j h1 h2 => ?_⟩
  obtain ⟨i, i1, i2, e⟩ := g.ins j h1 h2
  obtain ⟨k, k1, k2, e2⟩ := h.ins i i1 i2
  exact ⟨k, k1, k2, e.trans e2⟩
/-- The row ys is zs, its places led by f. -/
def Mv (zs ys : List Int) (f : Nat → Nat) : Prop := ys.length = zs.length ∧ ∀ j, nth ys j = nth zs (f j)
theorem Mv.pm {zs ys : List Int} {f : Nat → Nat} {a b : Nat} (h : Mv zs ys f) (h1 : ∀ j, ¬ (a ≤ j ∧ j < b) → f j = j) (h2 : ∀ j, a ≤ j → j < b → a ≤ f j ∧ f j < b) : PmQ zs ys a b :=
  ⟨h.1, fun j hj => by rw [h.2, h1 j hj], fun j a1 a2 => ⟨f j, (h2 j a1 a2).1, (h2 j a1 a2).2, h.2 j⟩⟩
theorem Mv.refl (zs : List Int) {f : Nat → Nat} (h : ∀ j, f j = j) : Mv zs zs f := ⟨rfl, fun j => by rw [h]⟩
theorem Mv.trans {zs ys xs : List Int} {f g h : Nat → Nat} (a : Mv zs ys f) (b : Mv ys xs g) (e : ∀ j, h j = f (g j)) : Mv zs xs h := ⟨b.1.trans a.1, fun j => by rw [b.2, a.2, e]⟩
theorem nth_set2 {zs : List Int} {i j k : Nat} {u v : Int} (hi : i < zs.length) (hj : j < zs.length) : nth ((zs.set i u).set j v) k = if k = j then v else if k = i then u else nth zs k := by
  unfold nth
  by_cases h : k = j
  · subst h; simp [hj]
  · rw [if_neg h, List.getD_eq_getElem?_getD, List.getElem?_set_ne (fun e => h e.symm)]
    by_cases h2 : k = i
    · subst h2; simp [hi]
    · rw [if_neg h2, List.getElem?_set_ne (fun e => h2 e.symm), ← List.getD_eq_getElem?_getD]
/-- Tw2 places changed. -/
def sw1 (i j : Nat) (k : Nat) : Nat := if k = j then i else if k = i then j else k
theorem mv_sw1 {zs : List Int} {i j : Nat} (hi : i < zs.length) (hj : j < zs.length) : Mv zs ((zs.set i (nth zs j)).set j (nth zs i)) (sw1 i j) := by
  refine ⟨by simp, fun k => ?_⟩
  rw [nth_set2 hi hj]
  unfold sw1
  split
  · rfl
  · split <;> rfl
theorem inN.mv {N : Nat} {zs ys : List Int} {a b : Nat} (h : inN N zs) (p : PmQ zs ys a b) (hb : b ≤ zs.length) : inN N ys := by
  intro k hk
  rw [p.len] at hk
  by_cases hj : a ≤ k ∧ k < b
  · obtain ⟨i, i1, i2, e⟩ := p.ins k hj.1 hj.2
    rw [e]; exact h i (by omega)
  · rw [p.out k hj]; exact h k hk

/- The search by halves. -/

/-- Insertion: the first t of a block from a on rise; the element at j sinks. -/
def sink (j t : Nat) (k : Nat) : Nat := if k = j then t else if j < k ∧ k ≤ t then k - 1 else k
theorem sink_self (t k : Nat) : sink t t k = k := by unfold sink; split <;> (try split) <;> omega
theorem sink_step {j t : Nat} (hj : j + 1 ≤ t) (k : Nat) : sink j t k = sink (j + 1) t (sw1 (j + 1) j k) := by
  unfold sink sw1
  by_cases h1 : k = j
  · subst h1; simp
  · by_cases h2 : k = j + 1
    · subst h2
      rw [if_neg (by omega), if_pos (by omega), if_neg h1, if_pos rfl, if_neg (by omega), if_neg (by omega)]; omega
    · rw [if_neg h1, if_neg h1, if_neg h2, if_neg h2]
      by_cases h3 : j < k ∧ k ≤ t
      · rw [if_pos h3, if_pos (by omega)]
      · rw [if_neg h3, if_neg (by omega)]
/-- An element laid where it belongs among a row that rises. -/
theorem sink_so {N : Nat} {c : Int → Int → Int} {zs ys : List Int} {a j t : Nat} (hc : Cmp3 N c) (hn : inN N zs) (hl : t < zs.length) (haj : a ≤ j) (hjt : j ≤ t) (hs : So c zs a t)
    (hm : Mv zs ys (sink j t)) (lo : ∀ k, a ≤ k → k < j → lx c (nth zs k) (nth zs t)) (hi : ∀ k, j ≤ k → k < t → lx c (nth zs t) (nth zs k)) : So c ys a (t + 1) := by
  intro p q hp hpq hq
  rw [hm.2, hm.2]
  unfold sink
  by_cases q1 : q = j
  · rw [if_pos q1, if_neg (by omega), if_neg (by omega)]
    exact lo p hp (by omega)
  · rw [if_neg q1]
    by_cases p1 : p = j
    · rw [if_pos p1, if_pos (by omega)]
      exact hi _ (by omega) (by omega)
    · rw [if_neg p1]
      by_cases q2 : j < q ∧ q ≤ t
      · rw [if_pos q2]
        by_cases p2 : j < p ∧ p ≤ t
        · rw [if_pos p2]; exact hs _ _ (by omega) (by omega) (by omega)
        · rw [if_neg p2]; exact hs _ _ (by omega) (by omega) (by omega)
      · rw [if_neg q2, if_neg (by omega)]
        exact hs _ _ (by omega) (by omega) (by omega)
/-- The first one laid further behind. -/
def lift1 (a t : Nat) (k : Nat) : Nat := if k = t then a else if a ≤ k ∧ k < t then k + 1 else k
theorem lift1_self (a k : Nat) : lift1 a a k = k := by unfold lift1; split <;> (try split) <;> omega
theorem lift1_step {a t : Nat} (h : a ≤ t) (k : Nat) : lift1 a (t + 1) k = lift1 a t (sw1 t (t + 1) k) := by
  unfold lift1 sw1
  by_cases h1 : k = t + 1
  · subst h1; simp
  · by_cases h2 : k = t
    · subst h2
      rw [if_neg h1, if_pos (by omega), if_neg h1, if_pos rfl, if_neg (by omega), if_neg (by omega)]
    · rw [if_neg h1, if_neg h1, if_neg h2, if_neg h2]
      by_cases h3 : a ≤ k ∧ k < t
      · rw [if_pos h3, if_pos (by omega)]
      · rw [if_neg h3, if_neg (by omega)]
theorem lift_so {N : Nat} {c : Int → Int → Int} {zs ys : List Int} {a t b : Nat} (hc : Cmp3 N c) (hn : inN N zs) (hb : b ≤ zs.length) (hat : a ≤ t) (htb : t < b) (hs : So c zs (a + 1) b)
    (hm : Mv zs ys (lift1 a t)) (lo : ∀ k, a + 1 ≤ k → k ≤ t → lx c (nth zs k) (nth zs a)) (hi : ∀ k, t < k → k < b → lx c (nth zs a) (nth zs k)) : So c ys a b := by
  intro p q hp hpq hq
  rw [hm.2, hm.2]
  unfold lift1
  by_cases q1 : q = t
  · rw [if_pos q1, if_neg (by omega), if_pos (by omega)]
    exact lo _ (by omega) (by omega)
  · rw [if_neg q1]
    by_cases p1 : p = t
    · rw [if_pos p1, if_neg (by omega)]
      exact hi _ (by omega) (by omega)
    · rw [if_neg p1]
      by_cases q2 : a ≤ q ∧ q < t
      · rw [if_pos q2, if_pos (by omega)]; exact hs _ _ (by omega) (by omega) (by omega)
      · rw [if_neg q2]
        by_cases p2 : a ≤ p ∧ p < t
        · rw [if_pos p2]; exact hs _ _ (by omega) (by omega) (by omega)
        · rw [if_neg p2]; exact hs _ _ (by omega) (by omega) (by omega)
/-- Tw2 ranges of n changed. -/
def swN (a b n : Nat) (k : Nat) : Nat := if a ≤ k ∧ k < a + n then k + (b - a) else if b ≤ k ∧ k < b + n then k - (b - a) else k
theorem swN_zero (a b k : Nat) : swN a b 0 k = k := by unfold swN; rw [if_neg (by omega), if_neg (by omega)]
theorem swN_step {a b i n : Nat} (h : a + n ≤ b) (hi : i < n) (k : Nat) : swN a b (i + 1) k = swN a b i (sw1 (a + i) (b + i) k) := by
  unfold swN sw1
  by_cases h1 : k = b + i
  · rw [if_neg (by omega), if_pos (by omega), if_pos h1, if_neg (by omega), if_neg (by omega)]; omega
  · by_cases h2 : k = a + i
    · rw [if_pos (by omega), if_neg h1, if_pos h2, if_neg (by omega), if_neg (by omega)]; omega
    · rw [if_neg h1, if_neg h2]
      by_cases h3 : a ≤ k ∧ k < a + i
      · rw [if_pos h3, if_pos (by omega)]
      · rw [if_neg h3, if_neg (by omega)]
        by_cases h4 : b ≤ k ∧ k < b + i
        · rw [if_pos h4, if_pos (by omega)]
        · rw [if_neg h4, if_neg (by omega)]
/-- The part from a to m laid behind the part from m to b. -/
def rotN (a m b : Nat) (k : Nat) : Nat := if a ≤ k ∧ k < a + (b - m) then m + (k - a) else if a + (b - m) ≤ k ∧ k < b then k - (b - m) else k
theorem rotN_gt {m i j : Nat} (hi : i ≤ m) (hj : j < i) (k : Nat) : rotN (m - i) m (m + j) k = swN (m - i) m j (rotN (m - (i - j)) m (m + j) k) := by
  unfold rotN swN
  by_cases h1 : m - i ≤ k ∧ k < m - i + (m + j - m)
  · rw [if_pos h1, if_neg (show ¬ (m - (i - j) ≤ k ∧ k < m - (i - j) + (m + j - m)) by omega), if_neg (show ¬ (m - (i - j) + (m + j - m) ≤ k ∧ k < m + j) by omega), if_pos (by omega)]; omega
  · rw [if_neg h1]
    by_cases h2 : m - i + (m + j - m) ≤ k ∧ k < m + j
    · rw [if_pos h2]
      by_cases h3 : m - (i - j) ≤ k ∧ k < m - (i - j) + (m + j - m)
      · rw [if_pos h3, if_neg (by omega), if_pos (by omega)]; omega
      · rw [if_neg h3, if_pos (show m - (i - j) + (m + j - m) ≤ k ∧ k < m + j by omega), if_neg (by omega), if_neg (by omega)]
    · rw [if_neg h2, if_neg (show ¬ (m - (i - j) ≤ k ∧ k < m - (i - j) + (m + j - m)) by omega), if_neg (show ¬ (m - (i - j) + (m + j - m) ≤ k ∧ k < m + j) by omega), if_neg (by omega), if_neg (by omega)]
theorem rotN_lt {m i j : Nat} (hi : i ≤ m) (hj : i < j) (k : Nat) : rotN (m - i) m (m + j) k = swN (m - i) (m + (j - i)) i (rotN (m - i) m (m + (j - i)) k) := by
  unfold rotN swN
  by_cases h1 : m - i ≤ k ∧ k < m - i + (m + j - m)
  · rw [if_pos h1]
    by_cases h3 : m - i ≤ k ∧ k < m - i + (m + (j - i) - m)
    · rw [if_pos h3, if_neg (by omega), if_neg (by omega)]
    · rw [if_neg h3, if_pos (show m - i + (m + (j - i) - m) ≤ k ∧ k < m + (j - i) by omega), if_pos (by omega)]; omega
  · rw [if_neg h1]
    by_cases h2 : m - i + (m + j - m) ≤ k ∧ k < m + j
    · rw [if_pos h2, if_neg (show ¬ (m - i ≤ k ∧ k < m - i + (m + (j - i) - m)) by omega), if_neg (show ¬ (m - i + (m + (j - i) - m) ≤ k ∧ k < m + (j - i)) by omega), if_neg (by omega), if_pos (by omega)]; omega
    · rw [if_neg h2, if_neg (show ¬ (m - i ≤ k ∧ k < m - i + (m + (j - i) - m)) by omega), if_neg (show ¬ (m - i + (m + (j - i) - m) ≤ k ∧ k < m + (j - i)) by omega), if_neg (by omega), if_neg (by omega)]
theorem rotN_eq {m i : Nat} (hi : i ≤ m) (k : Nat) : rotN (m - i) m (m + i) k = swN (m - i) m i k := by
  unfold rotN swN
  by_cases h1 : m - i ≤ k ∧ k < m - i + i
  · rw [if_pos (by omega), if_pos h1]; omega
  · rw [if_neg (by omega), if_neg h1]
    by_cases h2 : m ≤ k ∧ k < m + i
    · rw [if_pos (by omega), if_pos h2]; omega
    · rw [if_neg (by omega), if_neg h2]
theorem rotN_pm {zs ys : List Int} {a m b : Nat} (ha : a ≤ m) (hb : m ≤ b) (h : Mv zs ys (rotN a m b)) : PmQ zs ys a b := h.pm
  (fun j hj => by unfold rotN; rw [if_neg (by omega), if_neg (by omega)])
  (fun j h1 h2 => by
    unfold rotN
    by_cases h3 : a ≤ j ∧ j < a + (b - m)
    · rw [if_pos h3]; omega
    · rw [if_neg h3, if_pos (by omega)]; omega)
theorem rotN_id {a m b : Nat} (h : a = m ∨ m = b) (hab : a ≤ m) (hb : m ≤ b) (k : Nat) : rotN a m b k = k := by
  unfold rotN
  split
  · omega
  · split <;> omega

/-- What is known when the search in the midst of two rising parts has ended at s, e being the place beyond on the other side. -/
structure CutQ (c : Int → Int → Int) (zs : List Int) (a m b s e : Nat) : Prop where
  b1 : a ≤ s ∧ s ≤ m ∧ m ≤ e ∧ e ≤ b
  lo : ∀ k q, a ≤ k → k < s → e ≤ q → q < b → lx c (nth zs k) (nth zs q)
  hi : ∀ k q, s ≤ k → k < m → m ≤ q → q < e → lx c (nth zs q) (nth zs k)
/-- Behind the turn: both parts fit for the two calls. -/
structure Tw2 (c : Int → Int → Int) (ys : List Int) (a s mid e b : Nat) : Prop where
  s1 : So c ys a s
  s2 : So c ys s mid
  s3 : So c ys mid e
  s4 : So c ys e b
  l1 : Le2 ys a s mid
  l2 : Le2 ys mid e b
  x : ∀ i j, a ≤ i → i < mid → mid ≤ j → j < b → lx c (nth ys i) (nth ys j)
theorem cut_two {c : Int → Int → Int} {zs ys : List Int} {a m b s e mid : Nat} (h : CutQ c zs a m b s e) (hm : s + e = mid + m) (h1 : So c zs a m) (h2 : So c zs m b) (hl : Le2 zs a m b)
    (hy : Mv zs ys (rotN s m e)) : Tw2 c ys a s mid e b := by
  obtain ⟨b1, b2, b3, b4⟩ := h.b1
  have y1 : ∀ j, j < s → nth ys j = nth zs j := fun j hj => by rw [hy.2]; unfold rotN; rw [if_neg (by omega), if_neg (by omega)]
  have y2 : ∀ j, s ≤ j → j < mid → nth ys j = nth zs (m + (j - s)) := fun j p1 p2 => by rw [hy.2]; unfold rotN; rw [if_pos (by omega)]
  have y3 : ∀ j, mid ≤ j → j < e → nth ys j = nth zs (j - (e - m)) := fun j p1 p2 => by rw [hy.2]; unfold rotN; rw [if_neg (by omega), if_pos (by omega)]
  have y4 : ∀ j, e ≤ j → nth ys j = nth zs j := fun j hj => by rw [hy.2]; unfold rotN; rw [if_neg (by omega), if_neg (by omega)]
  refine ⟨fun i j p q r => ?_, fun i j p q r => ?_, fun i j p q r => ?_, fun i j p q r => ?_, fun i j p q r t => ?_, fun i j p q r t => ?_, fun i j p q r t => ?_⟩
  · rw [y1 i (by omega), y1 j (by omega)]; exact h1 _ _ p q (by omega)
  · rw [y2 i (by omega) (by omega), y2 j (by omega) (by omega)]; exact h2 _ _ (by omega) (by omega) (by omega)
  · rw [y3 i (by omega) (by omega), y3 j (by omega) (by omega)]; exact h1 _ _ (by omega) (by omega) (by omega)
  · rw [y4 i (by omega), y4 j (by omega)]; exact h2 _ _ (by omega) (by omega) (by omega)
  · rw [y1 i (by omega), y2 j (by omega) (by omega)]; exact hl _ _ (by omega) (by omega) (by omega) (by omega)
  · rw [y3 i (by omega) (by omega), y4 j (by omega)]; exact hl _ _ (by omega) (by omega) (by omega) (by omega)
  · by_cases hi : i < s
    · rw [y1 i hi]
      by_cases hj : j < e
      · rw [y3 j (by omega) hj]; exact h1 _ _ (by omega) (by omega) (by omega)
      · rw [y4 j (by omega)]; exact h.lo _ _ (by omega) (by omega) (by omega) (by omega)
    · rw [y2 i (by omega) (by omega)]
      by_cases hj : j < e
      · rw [y3 j (by omega) hj]; exact h.hi _ _ (by omega) (by omega) (by omega) (by omega)
      · rw [y4 j (by omega)]; exact h2 _ _ (by omega) (by omega) (by omega)
/-- Both parts put in order: the whole. -/
theorem two_so {c : Int → Int → Int} {ys us vs : List Int} {a mid b : Nat} (h1 : a ≤ mid) (h2 : mid ≤ b) (x : ∀ i j, a ≤ i → i < mid → mid ≤ j → j < b → lx c (nth ys i) (nth ys j))
    (p1 : PmQ ys us a mid) (o1 : So c us a mid) (p2 : PmQ us vs mid b) (o2 : So c vs mid b) : PmQ ys vs a b ∧ So c vs a b := by
  refine ⟨(p1.wide (Nat.le_refl _) h2).trans (p2.wide h1 (Nat.le_refl _)), fun i j p q r => ?_⟩
  by_cases hi : i < mid
  · rw [p2.out i (by omega)]
    by_cases hj : j < mid
    · rw [p2.out j (by omega)]; exact o1 _ _ p q hj
    · obtain ⟨k, k1, k2, e⟩ := p1.ins i p hi
      obtain ⟨l, l1, l2, e2⟩ := p2.ins j (by omega) r
      rw [e, e2, p1.out l (by omega)]
      exact x _ _ k1 k2 l1 l2
  · exact o2 _ _ (by omega) q r
theorem So.out {c : Int → Int → Int} {zs ys : List Int} {a b a' b' : Nat} (h : So c zs a b) (p : PmQ zs ys a' b') (d : b ≤ a' ∨ b' ≤ a) : So c ys a b := fun i j h1 h2 h3 => by
  rw [p.out i (by omega), p.out j (by omega)]; exact h i j h1 h2 h3
theorem Le2.out {zs ys : List Int} {a m b a' b' : Nat} (h : Le2 zs a m b) (p : PmQ zs ys a' b') (d : b ≤ a' ∨ b' ≤ a) : Le2 ys a m b := fun i j h1 h2 h3 h4 => by
  rw [p.out i (by omega), p.out j (by omega)]; exact h i j h1 h2 h3 h4
theorem So.none (c : Int → Int → Int) (zs : List Int) {a b : Nat} (h : b ≤ a + 1) : So c zs a b := fun i j h1 h2 h3 => by omega
end Go.Proofs.Ytlajainnpnbcaaa

namespace Go.Proofs.Ytlajainnpnbcaaa

open Go.RowKit

set_option linter.unusedVariables false

theorem wrY {z : Int} (h1 : -9223372036854775808 ≤ z) (h2 : z ≤ 9223372036854775807) : IntKind.i64.wrap z = z := wrapIn _ (by omega)
theorem nth_setY {zs : List Int} {j k : Nat} {u : Int} (hj : j < zs.length) : nth (zs.set j u) k = if k = j then u else nth zs k := by
  unfold nth
  by_cases h : k = j
  · subst h; simp [hj]
  · rw [if_neg h, List.getD_eq_getElem?_getD, List.getD_eq_getElem?_getD, List.getElem?_set_ne (fun e => h e.symm)]
theorem Ft.setY {e : TypeId} {w : World} {B g : Nat} {n cap : Nat} {zs : List Int} (h : Ft e w B (some ⟨g, 0, none⟩) n cap zs) (j : Nat) (hj : j < n) (u : Int) (h1 : -9223372036854775808 ≤ u) (h2 : u ≤ 9223372036854775807) :
    Ft e (w.setCell ⟨g, j, none⟩ (.int .i64 u)) B (some ⟨g, 0, none⟩) n cap (zs.set j u) := by
  have hl := h.rd.len
  have hs := (h.own.stored j (.int .i64 u)).1
  rw [show (zs.map (Value.int .i64)).set j (.int .i64 u) = (zs.set j u).map (Value.int .i64) by rw [List.map_set]] at hs
  obtain ⟨ao, c, e, hf⟩ := Ft.mk' (zs := zs.set j u) (by rw [List.length_set]; exact hl) h.rd.room (fun k hk => by
    rw [nth_setY (by omega)]
    split
    · exact ⟨h1, h2⟩
    · exact h.rd.num k hk) hs
  cases e
  exact hf
/-- A row of places, in block g of a world that is W below g. -/
structure Ro (g n : Nat) (W V : World) (zs : List Int) : Prop where
  bel : Below g W V
  row : Ft 3 V g (some ⟨g, 0, none⟩) n n zs
theorem Ro.len {g n : Nat} {W V : World} {zs : List Int} (h : Ro g n W V zs) : zs.length = n := h.row.rd.len
theorem Ro.lt {g n : Nat} {W V : World} {zs : List Int} (h : Ro g n W V zs) : g < V.heap.size := by
  rcases h.row.own.2 with ⟨e1, h0⟩ | ⟨g', c, cur, e1, hB2, hg, r⟩
  · cases e1
  · cases e1
    exact (Array.getElem?_eq_some_iff.1 hg).1
theorem Ro.below {g n : Nat} {W V V' : World} {zs : List Int} (h : Ro g n W V zs) (b : Below V.heap.size V V') : Ro g n W V' zs :=
  ⟨h.bel.trans (b.mono (Nat.le_of_lt h.lt)), h.row.below b (Nat.le_refl _)⟩
theorem Ro.drew {g n : Nat} {W V : World} {zs : List Int} (h : Ro g n W V zs) : Ro g n W V.drew zs := h.below (Below.refl _ _).drew
theorem Ro.slot {g n : Nat} {W V : World} {zs : List Int} (h : Ro g n W V zs) {j : Nat} (hj : j < n) : V.cell? ⟨g, j, none⟩ = some (.int .i64 (nth zs j)) ∧ V.frozen? ⟨g, j, none⟩ = false := by
  obtain ⟨b, off, e, hb, hc⟩ := h.row.rd.cells (by omega)
  cases e
  have c := hc j hj
  rw [Nat.zero_add] at c
  rcases h.row.own.2 with ⟨e1, h0⟩ | ⟨g', c', cur, e1, hB2, hg, r⟩
  · cases e1
  · cases e1
    exact ⟨c, frozen_of_row V g j _ _ hg⟩
theorem Ro.swap {g n : Nat} {W V : World} {zs : List Int} (h : Ro g n W V zs) {i j : Nat} (hi : i < n) (hj : j < n) :
    Ro g n W ((V.setCell ⟨g, i, none⟩ (.int .i64 (nth zs j))).setCell ⟨g, j, none⟩ (.int .i64 (nth zs i))) ((zs.set i (nth zs j)).set j (nth zs i)) :=
  ⟨(h.bel.setCell (p := ⟨g, i, none⟩) (Nat.le_refl _) _).setCell (p := ⟨g, j, none⟩) (Nat.le_refl _) _,
    (h.row.setY i hi _ (h.row.rd.num j hj).1 (h.row.rd.num j hj).2).setY j hj _ (h.row.rd.num i hi).1 (h.row.rd.num i hi).2⟩
/-- What the comparison that is handed in tells, wherever nothing below g has changed. -/
def CmpQ (g N : Nat) (W : World) (p q : Option Addr) (c : Int → Int → Int) : Prop := ∀ V, Below g W V → ∀ x y : Int, 0 ≤ x → x < N → 0 ≤ y → y < N →
  Calls Try.prog 74 #[.int .i64 x, .int .i64 y, .pointer p, .pointer q] V fun e w' => e = .returned (.int .i64 (c x y)) ∧ Below V.heap.size V w'
def ordV (p q : Option Addr) : Value := .func (.func 74) #[] #[.pointer p, .pointer q]

set_option maxHeartbeats 2000000 in
set_option maxRecDepth 20000 in
theorem insert_any (g n a b N : Nat) (p q : Option Addr) (c : Int → Int → Int) (W w : World) (zs : List Int) (h : Ro g n W w zs) (hc : Cmp3 N c) (hq : CmpQ g N W p q c) (hN : inN N zs) (hab : a ≤ b) (hb : b ≤ n) (hn4 : n ≤ 5000)
    (inc : ∀ i j, a ≤ i → i < j → j < b → nth zs i < nth zs j) :
    Calls Try.prog 81 #[.slice (some ⟨g, 0, none⟩) n n, .int .i64 (a : Nat), .int .i64 (b : Nat), ordV p q] w fun e w' => (∃ v, e = .returned v) ∧ ∃ ys, Ro g n W w' ys ∧ PmQ zs ys a b ∧ So c ys a b := by
  unfold ordV
  have HI : Hid (∀ i j, a ≤ i → i < j → j < b → nth zs i < nth zs j) := inc
  have HC : Hid (Cmp3 N c) := hc
  have HQ : Hid (CmpQ g N W p q c) := hq
  have HNN : Hid (inN N zs) := hN
  have HZ : Hid (zs.length = n) := h.len
  have w0 := wrY (z := (a : Int) + 1) (by omega) (by omega)
  clear inc hc hq hN
  go_enter Try.func81, Try.ntmps81
  go_wp2
  go_loopw [8] (fun i V => ∃ (k : Nat) (ys : List Int), a + 1 ≤ k ∧ (k ≤ b ∨ k = a + 1) ∧ i = .int .i64 (k : Nat) ∧ Ro g n W V ys ∧ PmQ zs ys a (min k b) ∧ So c ys a (min k b)) (fun i _ => b - (intOf i).toNat)
  case atStart => exact ⟨a + 1, zs, Nat.le_refl _, .inr rfl, by go_num, h, PmQ.refl _ _ _, So.none _ _ (by omega)⟩
  case round =>
    obtain ⟨k, ys, hk, hkb, rfl, R, P, S⟩ := hrel
    by_cases hlt : k < b
    · have hm : min k b = k := by omega
      rw [hm] at P S
      have t1 : decide ((k : Int) < (b : Int)) = true := by simp; omega
      have wk := wrY (z := (k : Int) + 1) (by omega) (by omega)
      have HL : Hid (ys.length = n) := R.len
      have YN : Hid (inN N ys) := HNN.out.mv P (by rw [HZ.out]; omega)
      have LT : Hid (∀ t, a ≤ t → t < k → nth ys t < nth ys k) := fun t t1 t2 => by
        obtain ⟨i, i1, i2, e⟩ := P.ins t t1 t2
        rw [e, P.out k (by omega)]
        exact HI.out i k i1 (by omega) hlt
      go_wp2
      go_loopw [9] (fun jv V => ∃ (j : Nat) (us : List Int), a ≤ j ∧ j ≤ k ∧ jv = .int .i64 (j : Nat) ∧ Ro g n W V us ∧ Mv ys us (sink j k) ∧ ∀ t, j ≤ t → t < k → lx c (nth ys k) (nth ys t)) (fun jv _ => (intOf jv).toNat)
      case atStart => exact ⟨k, ys, by omega, Nat.le_refl _, rfl, R, Mv.refl _ (sink_self k), fun t t1 t2 => by omega⟩
      case round =>
        obtain ⟨j, us, ja, jk, rfl, R2, M2, X2⟩ := hrel
        by_cases hja : a < j
        · obtain ⟨t, ht⟩ : ∃ t : Nat, t + 1 = j := ⟨j - 1, by omega⟩
          have ws : IntKind.i64.wrap ((j : Int) - 1) = (t : Int) := (wrapIn _ (by omega)).trans (by omega)
          have d1 : decide ((a : Int) < (j : Int)) = true := by simp; omega
          have bj : (j : Int) < (n : Int) := by omega
          have bt : (t : Int) < (n : Int) := by omega
          have ej : Hid (nth us j = nth ys k) := by unfold Hid; rw [M2.2]; unfold sink; rw [if_pos rfl]
          have et : Hid (nth us t = nth ys t) := by unfold Hid; rw [M2.2]; unfold sink; rw [if_neg (by omega), if_neg (by omega)]
          have y1 := YN.out k (by rw [HL.out]; omega)
          have y2 := YN.out t (by rw [HL.out]; omega)
          have hcmp : ∀ V, Ro g n W V us → Calls Try.prog 74 #[.int .i64 (nth us j), .int .i64 (nth us t), .pointer p, .pointer q] V fun e w' => e = .returned (.int .i64 (c (nth us j) (nth us t))) ∧ Ro g n W w' us := fun V HV =>
            (HQ.out V HV.bel _ _ (by rw [ej.out]; exact y1.1) (by rw [ej.out]; exact y1.2) (by rw [et.out]; exact y2.1) (by rw [et.out]; exact y2.2)).mono fun e w' ⟨e1, e2⟩ => ⟨e1, HV.below e2⟩
          have al : ∀ V, Ro g n W V us → V.cell? ⟨g, j, none⟩ = some (.int .i64 (nth us j)) ∧ V.cell? ⟨g, t, none⟩ = some (.int .i64 (nth us t)) ∧ Ro g n W V us := fun V HV => ⟨(HV.slot (by omega)).1, (HV.slot (by omega)).1, HV⟩
          by_cases hcc : c (nth us j) (nth us t) < 0
          · have d2 : decide (c (nth us j) (nth us t) < 0) = true := by simpa using hcc
            go_wp2
            go_region_held3 (fun V => V.cell? ⟨g, j, none⟩ = some (.int .i64 (nth us j)) ∧ V.cell? ⟨g, t, none⟩ = some (.int .i64 (nth us t)) ∧ Ro g n W V us) (first | exact al _ (by assumption) | exact al _ (Ro.drew (by assumption)))
              (first
                | (go_at_call 74; (with_reducible refine (hcmp _ (‹_ ∧ _ ∧ Ro g n W _ us›).2.2).mono ?_); rintro e w5 ⟨rfl, R5⟩))
            have S5 := R5.swap (i := j) (j := t) (by omega) (by omega)
            obtain ⟨c1, f1⟩ := R5.slot (j := j) (by omega)
            obtain ⟨c2, f2⟩ := R5.slot (j := t) (by omega)
            have MS := mv_sw1 (zs := us) (i := j) (j := t) (by rw [R5.len]; omega) (by rw [R5.len]; omega)
            generalize hx : nth us j = x at *
            generalize hy : nth us t = y at *
            clear al hcmp
            go_wp2
            go_region
            all_goals
              go_wp2
              go_roundw
              case rel =>
                refine ⟨t, _, by omega, by omega, rfl, S5.drew, M2.trans MS (fun i => ?_), fun u u1 u2 => ?_⟩
                · subst ht; exact sink_step (by omega) i
                · rcases Nat.lt_or_ge u j with hu | hu
                  · obtain rfl : u = t := by omega
                    rw [← ej.out, ← et.out]; exact .inl hcc
                  · exact X2 u hu u2
              case measure => simp [intOf]; omega
          · have d2 : decide (c (nth us j) (nth us t) < 0) = false := by simpa using hcc
            go_wp2
            go_region_held3 (fun V => V.cell? ⟨g, j, none⟩ = some (.int .i64 (nth us j)) ∧ V.cell? ⟨g, t, none⟩ = some (.int .i64 (nth us t)) ∧ Ro g n W V us) (first | exact al _ (by assumption) | exact al _ (Ro.drew (by assumption)))
              (first
                | (go_at_call 74; (with_reducible refine (hcmp _ (‹_ ∧ _ ∧ Ro g n W _ us›).2.2).mono ?_); rintro e w5 ⟨rfl, R5⟩))
            go_wp2
            go_roundw
            case rel =>
              have q1 : PmQ ys us a (k + 1) := M2.pm (fun i hi => by unfold sink; rw [if_neg (by omega), if_neg (by omega)]) (fun i i1 i2 => by unfold sink; split; omega; split <;> omega)
              have q2 : So c us a (k + 1) := sink_so HC.out YN.out (by rw [HL.out]; omega) ja jk S M2 (fun u u1 u2 => by
                have b1 : lx c (nth ys t) (nth ys k) := lx_not HC.out y2 y1 (LT.out t (by omega) (by omega)) (by rw [← ej.out, ← et.out]; omega)
                rcases Nat.lt_or_ge u t with hu | hu
                · exact lx_trans HC.out (YN.out u (by rw [HL.out]; omega)) y2 y1 (S u t u1 hu (by omega)) b1
                · obtain rfl : u = t := by omega
                  exact b1) X2
              have hm2 : min (k + 1) b = k + 1 := by omega
              exact ⟨k + 1, us, by omega, .inl (by omega), by go_num, R5, by rw [hm2]; exact (P.wide (Nat.le_refl _) (by omega)).trans q1, by rw [hm2]; exact q2⟩
            case measure => simp [intOf]; omega
        · obtain rfl : j = a := by omega
          have d1 : decide ((j : Int) < (j : Int)) = false := by simp
          go_wp2
          go_region
          go_wp2
          go_roundw
          case rel =>
            have q1 : PmQ ys us j (k + 1) := M2.pm (fun i hi => by unfold sink; rw [if_neg (by omega), if_neg (by omega)]) (fun i i1 i2 => by unfold sink; split; omega; split <;> omega)
            have q2 : So c us j (k + 1) := sink_so HC.out YN.out (by rw [HL.out]; omega) ja jk S M2 (fun u u1 u2 => by omega) X2
            have hm2 : min (k + 1) b = k + 1 := by omega
            exact ⟨k + 1, us, by omega, .inl (by omega), by go_num, R2.drew, by rw [hm2]; exact (P.wide (Nat.le_refl _) (by omega)).trans q1, by rw [hm2]; exact q2⟩
          case measure => simp [intOf]; omega
    · have hm : min k b = b := by omega
      rw [hm] at P S
      have t1 : decide ((k : Int) < (b : Int)) = false := by simp; omega
      go_wp2
      go_end0
      exact ⟨⟨_, rfl⟩, ys, R, P, S⟩

set_option maxHeartbeats 2000000 in
set_option maxRecDepth 20000 in
theorem swapR_any (g n a b m : Nat) (p q : Option Addr) (W w : World) (zs : List Int) (h : Ro g n W w zs) (hab : a + m ≤ b) (hb : b + m ≤ n) (hn4 : n ≤ 5000) :
    Calls Try.prog 84 #[.slice (some ⟨g, 0, none⟩) n n, .int .i64 (a : Nat), .int .i64 (b : Nat), .int .i64 (m : Nat), ordV p q] w fun e w' => (∃ v, e = .returned v) ∧ ∃ ys, Ro g n W w' ys ∧ Mv zs ys (swN a b m) := by
  unfold ordV
  go_enter Try.func84, Try.ntmps84
  go_wp2
  go_loopw [10] (fun i V => ∃ (k : Nat) (ys : List Int), k ≤ m ∧ i = .int .i64 (k : Nat) ∧ Ro g n W V ys ∧ Mv zs ys (swN a b k)) (fun i _ => m - (intOf i).toNat)
  case atStart => exact ⟨0, zs, Nat.zero_le _, rfl, h, Mv.refl _ (swN_zero a b)⟩
  case round =>
    obtain ⟨k, ys, hk, rfl, R, M⟩ := hrel
    by_cases hlt : k < m
    · obtain ⟨i, hi⟩ : ∃ i : Nat, i = a + k := ⟨_, rfl⟩
      obtain ⟨j, hj⟩ : ∃ j : Nat, j = b + k := ⟨_, rfl⟩
      have t1 : decide ((k : Int) < (m : Int)) = true := by simp; omega
      have wi : IntKind.i64.wrap ((a : Int) + (k : Int)) = (i : Int) := (wrapIn _ (by omega)).trans (by omega)
      have wj : IntKind.i64.wrap ((b : Int) + (k : Int)) = (j : Int) := (wrapIn _ (by omega)).trans (by omega)
      have wk := wrY (z := (k : Int) + 1) (by omega) (by omega)
      have bi : (i : Int) < (n : Int) := by omega
      have bj : (j : Int) < (n : Int) := by omega
      have HH : Hid (i = a + k ∧ j = b + k) := ⟨hi, hj⟩
      have S5 := R.swap (i := i) (j := j) (by omega) (by omega)
      obtain ⟨c1, f1⟩ := R.slot (j := i) (by omega)
      obtain ⟨c2, f2⟩ := R.slot (j := j) (by omega)
      have MS := mv_sw1 (zs := ys) (i := i) (j := j) (by rw [R.len]; omega) (by rw [R.len]; omega)
      have le := R.len
      generalize hx : nth ys i = x at *
      generalize hy : nth ys j = y at *
      have hij : i < j := by omega
      clear hi hj hx hy
      go_wp2
      go_region
      all_goals
        go_wp2
        go_roundw
        case rel => exact ⟨k + 1, _, by omega, by go_num, S5.drew, M.trans MS (fun u => by rw [HH.out.1, HH.out.2]; exact swN_step hab hlt u)⟩
        case measure => simp [intOf]; omega
    · obtain rfl : k = m := by omega
      have t1 : decide ((k : Int) < (k : Int)) = false := by simp
      go_wp2
      go_end0
      exact ⟨⟨_, rfl⟩, ys, R, M⟩

set_option maxHeartbeats 2000000 in
set_option maxRecDepth 20000 in
theorem rotate_any (g n a m b : Nat) (p q : Option Addr) (W w : World) (zs : List Int) (h : Ro g n W w zs) (ham : a < m) (hmb : m < b) (hb : b ≤ n) (hn4 : n ≤ 5000) :
    Calls Try.prog 83 #[.slice (some ⟨g, 0, none⟩) n n, .int .i64 (a : Nat), .int .i64 (m : Nat), .int .i64 (b : Nat), ordV p q] w fun e w' => (∃ v, e = .returned v) ∧ ∃ ys, Ro g n W w' ys ∧ Mv zs ys (rotN a m b) := by
  have hsw := fun (x y z : Nat) V us (HV : Ro g n W V us) h1 h2 => swapR_any g n x y z p q W V us HV h1 h2 hn4
  unfold ordV at *
  obtain ⟨i0, hi0⟩ : ∃ i0 : Nat, a + i0 = m := ⟨m - a, by omega⟩
  obtain ⟨j0, hj0⟩ : ∃ j0 : Nat, m + j0 = b := ⟨b - m, by omega⟩
  have v0 : IntKind.i64.wrap ((m : Int) - (a : Int)) = (i0 : Int) := (wrapIn _ (by omega)).trans (by omega)
  have v1 : IntKind.i64.wrap ((b : Int) - (m : Int)) = (j0 : Int) := (wrapIn _ (by omega)).trans (by omega)
  go_enter Try.func83, Try.ntmps83
  go_wp2
  go_loopw [10, 11] (fun iv jv V => ∃ (i j : Nat) (ys : List Int), 0 < i ∧ 0 < j ∧ i ≤ i0 ∧ j ≤ j0 ∧ iv = .int .i64 (i : Nat) ∧ jv = .int .i64 (j : Nat) ∧ Ro g n W V ys ∧ ∀ us, Mv ys us (rotN (m - i) m (m + j)) → Mv zs us (rotN a m b)) (fun iv jv _ => (intOf iv).toNat + (intOf jv).toNat)
  case atStart => exact ⟨i0, j0, zs, by omega, by omega, Nat.le_refl _, Nat.le_refl _, rfl, rfl, h, fun us hu => by rwa [show m - i0 = a by omega, show m + j0 = b by omega] at hu⟩
  case round =>
    obtain ⟨i, j, ys, hi, hj, hi', hj', rfl, rfl, R, G⟩ := hrel
    obtain ⟨mi, hmi⟩ : ∃ mi : Nat, mi = m - i := ⟨_, rfl⟩
    have u0 : IntKind.i64.wrap ((m : Int) - (i : Int)) = (mi : Int) := (wrapIn _ (by omega)).trans (by omega)
    by_cases hne : i = j
    · subst hne
      have t1 : ((i : Int) != (i : Int)) = false := by simp
      have hc := hsw mi m i _ _ R (by omega) (by omega)
      have HM : Hid (mi = m - i) := hmi
      clear hmi
      go_wp2_with (go_at_call 84; (with_reducible refine hc.mono ?_); rintro e w2 ⟨⟨v, rfl⟩, us, R2, M2⟩)
      go_end0
      exact ⟨⟨_, rfl⟩, us, R2, G us (by rw [HM.out] at M2; exact ⟨M2.1, fun k => by rw [M2.2, rotN_eq (by omega)]⟩)⟩
    · have t1 : ((i : Int) != (j : Int)) = true := by simp; omega
      by_cases hgt : j < i
      · have t2 : decide ((j : Int) < (i : Int)) = true := by simp; omega
        obtain ⟨d, hd⟩ : ∃ d : Nat, d + j = i := ⟨i - j, by omega⟩
        have u1 : IntKind.i64.wrap ((i : Int) - (j : Int)) = (d : Int) := (wrapIn _ (by omega)).trans (by omega)
        have hc := hsw mi m j _ _ R (by omega) (by omega)
        have HM : Hid (mi = m - i ∧ d + j = i) := ⟨hmi, hd⟩
        clear hmi hd
        go_wp2_with (go_at_call 84; (with_reducible refine hc.mono ?_); rintro e w2 ⟨⟨v, rfl⟩, us, R2, M2⟩)
        go_roundw
        case rel =>
          obtain ⟨hmi, hd⟩ := HM.out
          refine ⟨d, j, us, by omega, hj, by omega, hj', rfl, rfl, R2, fun vs hv => G vs ?_⟩
          refine M2.trans hv (fun k => ?_)
          rw [hmi, show d = i - j by omega]
          exact rotN_gt (by omega) hgt k
        case measure => simp [intOf]; have := HM.out; omega
      · have t2 : decide ((j : Int) < (i : Int)) = false := by simp; omega
        obtain ⟨d, hd⟩ : ∃ d : Nat, d + i = j := ⟨j - i, by omega⟩
        obtain ⟨mj, hmj⟩ : ∃ mj : Nat, mj = m + d := ⟨_, rfl⟩
        have u1 : IntKind.i64.wrap ((j : Int) - (i : Int)) = (d : Int) := (wrapIn _ (by omega)).trans (by omega)
        have u2 := wrY (z := (m : Int) + (j : Int)) (by omega) (by omega)
        have u3 : IntKind.i64.wrap ((m : Int) + (j : Int) - (i : Int)) = (mj : Int) := (wrapIn _ (by omega)).trans (by omega)
        have hc := hsw mi mj i _ _ R (by omega) (by omega)
        have HM : Hid (mi = m - i ∧ d + i = j ∧ mj = m + d) := ⟨hmi, hd, hmj⟩
        clear hmi hd hmj
        go_wp2_with (go_at_call 84; (with_reducible refine hc.mono ?_); rintro e w2 ⟨⟨v, rfl⟩, us, R2, M2⟩)
        go_roundw
        case rel =>
          obtain ⟨hmi, hd, hmj⟩ := HM.out
          refine ⟨i, d, us, hi, by omega, hi', by omega, rfl, rfl, R2, fun vs hv => G vs ?_⟩
          refine M2.trans hv (fun k => ?_)
          rw [hmi, hmj, show d = j - i by omega]
          exact rotN_lt (by omega) (by omega) k
        case measure => simp [intOf]; have := HM.out; omega
end Go.Proofs.Ytlajainnpnbcaaa
