
/- Numbers of package seek: rows of places that are put in order. -/

import Derived.Test.YtmepcenbaohcoaaGreatRefs

namespace Go.Proofs.YtmepcenbaohcoaaGreat

set_option linter.unusedVariables false

/-- What is asked of a comparison over the places below N. -/
structure Cmp3 (N : Nat) (c : Int → Int → Int) : Prop where
  anti : ∀ x y : Int, 0 ≤ x → x < N → 0 ≤ y → y < N → c y x = - c x y
  trans : ∀ x y z : Int, 0 ≤ x → x < N → 0 ≤ y → y < N → 0 ≤ z → z < N → c x y ≤ 0 → c y z ≤ 0 → c x z ≤ 0
/-- x stands ahead of y: it is before, or the same with the lesser place. -/
def lx (c : Int → Int → Int) (x y : Int) : Prop := c x y < 0 ∨ (c x y = 0 ∧ x < y)
def inN (N : Nat) (zs : List Int) : Prop := ∀ k, k < zs.length → 0 ≤ nth zs k ∧ nth zs k < N
theorem lx_trans {N : Nat} {c : Int → Int → Int} (h : Cmp3 N c) {x y z : Int} (x0 : 0 ≤ x ∧ x < N) (y0 : 0 ≤ y ∧ y < N) (z0 : 0 ≤ z ∧ z < N) (a : lx c x y) (b : lx c y z) : lx c x z := by
  have t := h.trans x y z x0.1 x0.2 y0.1 y0.2 z0.1 z0.2
  have t2 := h.trans y z x y0.1 y0.2 z0.1 z0.2 x0.1 x0.2
  have t3 := h.trans z x y z0.1 z0.2 x0.1 x0.2 y0.1 y0.2
  have a1 := h.anti x y x0.1 x0.2 y0.1 y0.2
  have a2 := h.anti y z y0.1 y0.2 z0.1 z0.2
  have a3 := h.anti x z x0.1 x0.2 z0.1 z0.2
  unfold lx at *
  omega
theorem lx_not {N : Nat} {c : Int → Int → Int} (h : Cmp3 N c) {x y : Int} (x0 : 0 ≤ x ∧ x < N) (y0 : 0 ≤ y ∧ y < N) (hxy : x < y) (a : ¬ c y x < 0) : lx c x y := by
  have a1 := h.anti x y x0.1 x0.2 y0.1 y0.2
  unfold lx; omega
theorem lx_irr {N : Nat} {c : Int → Int → Int} (h : Cmp3 N c) {x : Int} (x0 : 0 ≤ x ∧ x < N) (a : lx c x x) : False := by
  have a1 := h.anti x x x0.1 x0.2 x0.1 x0.2
  unfold lx at a; omega
/-- From a to b the row rises. -/
def So (c : Int → Int → Int) (zs : List Int) (a b : Nat) : Prop := ∀ i j, a ≤ i → i < j → j < b → lx c (nth zs i) (nth zs j)
/-- What stands from a to m is less, as a place, than what stands from m to b. -/
def Le2 (zs : List Int) (a m b : Nat) : Prop := ∀ i j, a ≤ i → i < m → m ≤ j → j < b → nth zs i < nth zs j
/-- Within a to b the row holds what it held; beyond it is as it was. -/
structure PmQ (zs ys : List Int) (a b : Nat) : Prop where
  len : ys.length = zs.length
  out : ∀ j, ¬ (a ≤ j ∧ j < b) → nth ys j = nth zs j
  ins : ∀ j, a ≤ j → j < b → ∃ i, a ≤ i ∧ i < b ∧ nth ys j = nth zs i
theorem PmQ.refl (zs : List Int) (a b : Nat) : PmQ zs zs a b := ⟨rfl, fun _ _ => rfl, fun j h1 h2 => ⟨j, h1, h2, rfl⟩⟩
theorem PmQ.wide {zs ys : List Int} {a b a' b' : Nat} (h : PmQ zs ys a b) (ha : a' ≤ a) (hb : b ≤ b') : PmQ zs ys a' b' := by
  refine ⟨h.len, fun j hj => h.out j (by omega), fun j h1 h2 => ?_⟩
  by_cases hj : a ≤ j ∧ j < b
  · obtain ⟨i, i1, i2, e⟩ := h.ins j hj.1 hj.2
    exact ⟨i, by omega, by omega, e⟩
  · exact ⟨j, h1, h2, h.out j hj⟩
theorem PmQ.trans {zs ys xs : List Int} {a b : Nat} (h : PmQ zs ys a b) (g : PmQ ys xs a b) : PmQ zs xs a b := by
  refine ⟨g.len.trans h.len, fun j hj => (g.out j hj).trans (h.out j hj), fun j h1 h2 => ?_⟩
  obtain ⟨i, i1, i2, e⟩ := g.ins j h1 h2
  obtain ⟨k, k1, k2, e2⟩ := h.ins i i1 i2
  exact ⟨k, k1, k2, e.trans e2⟩
/-- The row ys is zs, its places led by f. -/
def Mv (zs ys : List Int) (f : Nat → Nat) : Prop := ys.length = zs.length ∧ ∀ j, nth ys j = nth zs (f j)
theorem Mv.pm {zs ys : List Int} {f : Nat → Nat} {a b : Nat} (h : Mv zs ys f) (h1 : ∀ j, ¬ (a ≤ j ∧ j < b) → f j = j) (h2 : ∀ j, a ≤ j → j < b → a ≤ f j ∧ f j < b) : PmQ zs ys a b :=
  ⟨h.1, fun j hj => by rw [h.2, h1 j hj], fun j a1 a2 => ⟨f j, (h2 j a1 a2).1, (h2 j a1 a2).2, h.2 j⟩⟩
theorem Mv.refl (zs : List Int) {f : Nat → Nat} (h : ∀ j, f j = j) : Mv zs zs f := ⟨rfl, fun j => by rw [h]⟩
theorem Mv.trans {zs ys xs : List Int} {f g h : Nat → Nat} (a : Mv zs ys f) (b : Mv ys xs g) (e : ∀ j, h j = f (g j)) : Mv zs xs h := ⟨b.1.trans a.1, fun j => by rw [b.2, a.2, e]⟩
theorem nth_set2 {zs : List Int} {i j k : Nat} {u v : Int} (hi : i < zs.length) (hj : j < zs.length) : nth ((zs.set i u).set j v) k = if k = j then v else if k = i then u else nth zs k := by
  unfold nth
  by_cases h : k = j
  · subst h; simp [hj]
  · rw [if_neg h, List.getD_eq_getElem?_getD, List.getElem?_set_ne (fun e => h e.symm)]
    by_cases h2 : k = i
    · subst h2; simp [hi]
    · rw [if_neg h2, List.getElem?_set_ne (fun e => h2 e.symm), ← List.getD_eq_getElem?_getD]
/-- Tw2 places changed. -/
def sw1 (i j : Nat) (k : Nat) : Nat := if k = j then i else if k = i then j else k
theorem mv_sw1 {zs : List Int} {i j : Nat} (hi : i < zs.length) (hj : j < zs.length) : Mv zs ((zs.set i (nth zs j)).set j (nth zs i)) (sw1 i j) := by
  refine ⟨by simp, fun k => ?_⟩
  rw [nth_set2 hi hj]
  unfold sw1
  split
  · rfl
  · split <;> rfl
theorem inN.mv {N : Nat} {zs ys : List Int} {a b : Nat} (h : inN N zs) (p : PmQ zs ys a b) (hb : b ≤ zs.length) : inN N ys := by
  intro k hk
  rw [p.len] at hk
  by_cases hj : a ≤ k ∧ k < b
  · obtain ⟨i, i1, i2, e⟩ := p.ins k hj.1 hj.2
    rw [e]; exact h i (by omega)
  · rw [p.out k hj]; exact h k hk

/- The search by halves. -/

/-- Insertion: the first t of a block from a on rise; the element at j sinks. -/
def sink (j t : Nat) (k : Nat) : Nat := if k = j then t else if j < k ∧ k ≤ t then k - 1 else k
theorem sink_self (t k : Nat) : sink t t k = k := by unfold sink; split <;> (try split) <;> omega
theorem sink_step {j t : Nat} (hj : j + 1 ≤ t) (k : Nat) : sink j t k = sink (j + 1) t (sw1 (j + 1) j k) := by
  unfold sink sw1
  by_cases h1 : k = j
  · subst h1; simp
  · by_cases h2 : k = j + 1
    · subst h2
      rw [if_neg (by omega), if_pos (by omega), if_neg h1, if_pos rfl, if_neg (by omega), if_neg (by omega)]; omega
    · rw [if_neg h1, if_neg h1, if_neg h2, if_neg h2]
      by_cases h3 : j < k ∧ k ≤ t
      · rw [if_pos h3, if_pos (by omega)]
      · rw [if_neg h3, if_neg (by omega)]
/-- An element laid where it belongs among a row that rises. -/
theorem sink_so {N : Nat} {c : Int → Int → Int} {zs ys : List Int} {a j t : Nat} (hc : Cmp3 N c) (hn : inN N zs) (hl : t < zs.length) (haj : a ≤ j) (hjt : j ≤ t) (hs : So c zs a t)
    (hm : Mv zs ys (sink j t)) (lo : ∀ k, a ≤ k → k < j → lx c (nth zs k) (nth zs t)) (hi : ∀ k, j ≤ k → k < t → lx c (nth zs t) (nth zs k)) : So c ys a (t + 1) := by
  intro p q hp hpq hq
  rw [hm.2, hm.2]
  unfold sink
  by_cases q1 : q = j
  · rw [if_pos q1, if_neg (by omega), if_neg (by omega)]
    exact lo p hp (by omega)
  · rw [if_neg q1]
    by_cases p1 : p = j
    · rw [if_pos p1, if_pos (by omega)]
      exact hi _ (by omega) (by omega)
    · rw [if_neg p1]
      by_cases q2 : j < q ∧ q ≤ t
      · rw [if_pos q2]
        by_cases p2 : j < p ∧ p ≤ t
        · rw [if_pos p2]; exact hs _ _ (by omega) (by omega) (by omega)
        · rw [if_neg p2]; exact hs _ _ (by omega) (by omega) (by omega)
      · rw [if_neg q2, if_neg (by omega)]
        exact hs _ _ (by omega) (by omega) (by omega)
/-- The first one laid further behind. -/
def lift1 (a t : Nat) (k : Nat) : Nat := if k = t then a else if a ≤ k ∧ k < t then k + 1 else k
theorem lift1_self (a k : Nat) : lift1 a a k = k := by unfold lift1; split <;> (try split) <;> omega
theorem lift1_step {a t : Nat} (h : a ≤ t) (k : Nat) : lift1 a (t + 1) k = lift1 a t (sw1 t (t + 1) k) := by
  unfold lift1 sw1
  by_cases h1 : k = t + 1
  · subst h1; simp
  · by_cases h2 : k = t
    · subst h2
      rw [if_neg h1, if_pos (by omega), if_neg h1, if_pos rfl, if_neg (by omega), if_neg (by omega)]
    · rw [if_neg h1, if_neg h1, if_neg h2, if_neg h2]
      by_cases h3 : a ≤ k ∧ k < t
      · rw [if_pos h3, if_pos (by omega)]
      · rw [if_neg h3, if_neg (by omega)]
theorem lift_so {N : Nat} {c : Int → Int → Int} {zs ys : List Int} {a t b : Nat} (hc : Cmp3 N c) (hn : inN N zs) (hb : b ≤ zs.length) (hat : a ≤ t) (htb : t < b) (hs : So c zs (a + 1) b)
    (hm : Mv zs ys (lift1 a t)) (lo : ∀ k, a + 1 ≤ k → k ≤ t → lx c (nth zs k) (nth zs a)) (hi : ∀ k, t < k → k < b → lx c (nth zs a) (nth zs k)) : So c ys a b := by
  intro p q hp hpq hq
  rw [hm.2, hm.2]
  unfold lift1
  by_cases q1 : q = t
  · rw [if_pos q1, if_neg (by omega), if_pos (by omega)]
    exact lo _ (by omega) (by omega)
  · rw [if_neg q1]
    by_cases p1 : p = t
    · rw [if_pos p1, if_neg (by omega)]
      exact hi _ (by omega) (by omega)
    · rw [if_neg p1]
      by_cases q2 : a ≤ q ∧ q < t
      · rw [if_pos q2, if_pos (by omega)]; exact hs _ _ (by omega) (by omega) (by omega)
      · rw [if_neg q2]
        by_cases p2 : a ≤ p ∧ p < t
        · rw [if_pos p2]; exact hs _ _ (by omega) (by omega) (by omega)
        · rw [if_neg p2]; exact hs _ _ (by omega) (by omega) (by omega)
/-- Tw2 ranges of n changed. -/
def swN (a b n : Nat) (k : Nat) : Nat := if a ≤ k ∧ k < a + n then k + (b - a) else if b ≤ k ∧ k < b + n then k - (b - a) else k
theorem swN_zero (a b k : Nat) : swN a b 0 k = k := by unfold swN; rw [if_neg (by omega), if_neg (by omega)]
theorem swN_step {a b i n : Nat} (h : a + n ≤ b) (hi : i < n) (k : Nat) : swN a b (i + 1) k = swN a b i (sw1 (a + i) (b + i) k) := by
  unfold swN sw1
  by_cases h1 : k = b + i
  · rw [if_neg (by omega), if_pos (by omega), if_pos h1, if_neg (by omega), if_neg (by omega)]; omega
  · by_cases h2 : k = a + i
    · rw [if_pos (by omega), if_neg h1, if_pos h2, if_neg (by omega), if_neg (by omega)]; omega
    · rw [if_neg h1, if_neg h2]
      by_cases h3 : a ≤ k ∧ k < a + i
      · rw [if_pos h3, if_pos (by omega)]
      · rw [if_neg h3, if_neg (by omega)]
        by_cases h4 : b ≤ k ∧ k < b + i
        · rw [if_pos h4, if_pos (by omega)]
        · rw [if_neg h4, if_neg (by omega)]
/-- The part from a to m laid behind the part from m to b. -/
def rotN (a m b : Nat) (k : Nat) : Nat := if a ≤ k ∧ k < a + (b - m) then m + (k - a) else if a + (b - m) ≤ k ∧ k < b then k - (b - m) else k
theorem rotN_gt {m i j : Nat} (hi : i ≤ m) (hj : j < i) (k : Nat) : rotN (m - i) m (m + j) k = swN (m - i) m j (rotN (m - (i - j)) m (m + j) k) := by
  unfold rotN swN
  by_cases h1 : m - i ≤ k ∧ k < m - i + (m + j - m)
  · rw [if_pos h1, if_neg (show ¬ (m - (i - j) ≤ k ∧ k < m - (i - j) + (m + j - m)) by omega), if_neg (show ¬ (m - (i - j) + (m + j - m) ≤ k ∧ k < m + j) by omega), if_pos (by omega)]; omega
  · rw [if_neg h1]
    by_cases h2 : m - i + (m + j - m) ≤ k ∧ k < m + j
    · rw [if_pos h2]
      by_cases h3 : m - (i - j) ≤ k ∧ k < m - (i - j) + (m + j - m)
      · rw [if_pos h3, if_neg (by omega), if_pos (by omega)]; omega
      · rw [if_neg h3, if_pos (show m - (i - j) + (m + j - m) ≤ k ∧ k < m + j by omega), if_neg (by omega), if_neg (by omega)]
    · rw [if_neg h2, if_neg (show ¬ (m - (i - j) ≤ k ∧ k < m - (i - j) + (m + j - m)) by omega), if_neg (show ¬ (m - (i - j) + (m + j - m) ≤ k ∧ k < m + j) by omega), if_neg (by omega), if_neg (by omega)]
theorem rotN_lt {m i j : Nat} (hi : i ≤ m) (hj : i < j) (k : Nat) : rotN (m - i) m (m + j) k = swN (m - i) (m + (j - i)) i (rotN (m - i) m (m + (j - i)) k) := by
  unfold rotN swN
  by_cases h1 : m - i ≤ k ∧ k < m - i + (m + j - m)
  · rw [if_pos h1]
    by_cases h3 : m - i ≤ k ∧ k < m - i + (m + (j - i) - m)
    · rw [if_pos h3, if_neg (by omega), if_neg (by omega)]
    · rw [if_neg h3, if_pos (show m - i + (m + (j - i) - m) ≤ k ∧ k < m + (j - i) by omega), if_pos (by omega)]; omega
  · rw [if_neg h1]
    by_cases h2 : m - i + (m + j - m) ≤ k ∧ k < m + j
    · rw [if_pos h2, if_neg (show ¬ (m - i ≤ k ∧ k < m - i + (m + (j - i) - m)) by omega), if_neg (show ¬ (m - i + (m + (j - i) - m) ≤ k ∧ k < m + (j - i)) by omega), if_neg (by omega), if_pos (by omega)]; omega
    · rw [if_neg h2, if_neg (show ¬ (m - i ≤ k ∧ k < m - i + (m + (j - i) - m)) by omega), if_neg (show ¬ (m - i + (m + (j - i) - m) ≤ k ∧ k < m + (j - i)) by omega), if_neg (by omega), if_neg (by omega)]
theorem rotN_eq {m i : Nat} (hi : i ≤ m) (k : Nat) : rotN (m - i) m (m + i) k = swN (m - i) m i k := by
  unfold rotN swN
  by_cases h1 : m - i ≤ k ∧ k < m - i + i
  · rw [if_pos (by omega), if_pos h1]; omega
  · rw [if_neg (by omega), if_neg h1]
    by_cases h2 : m ≤ k ∧ k < m + i
    · rw [if_pos (by omega), if_pos h2]; omega
    · rw [if_neg (by omega), if_neg h2]
theorem rotN_pm {zs ys : List Int} {a m b : Nat} (ha : a ≤ m) (hb : m ≤ b) (h : Mv zs ys (rotN a m b)) : PmQ zs ys a b := h.pm
  (fun j hj => by unfold rotN; rw [if_neg (by omega), if_neg (by omega)])
  (fun j h1 h2 => by
    unfold rotN
    by_cases h3 : a ≤ j ∧ j < a + (b - m)
    · rw [if_pos h3]; omega
    · rw [if_neg h3, if_pos (by omega)]; omega)
theorem rotN_id {a m b : Nat} (h : a = m ∨ m = b) (hab : a ≤ m) (hb : m ≤ b) (k : Nat) : rotN a m b k = k := by
  unfold rotN
  split
  · omega
  · split <;> omega

/-- What is known when the search in the midst of two rising parts has ended at s, e being the place beyond on the other side. -/
structure CutQ (c : Int → Int → Int) (zs : List Int) (a m b s e : Nat) : Prop where
  b1 : a ≤ s ∧ s ≤ m ∧ m ≤ e ∧ e ≤ b
  lo : ∀ k q, a ≤ k → k < s → e ≤ q → q < b → lx c (nth zs k) (nth zs q)
  hi : ∀ k q, s ≤ k → k < m → m ≤ q → q < e → lx c (nth zs q) (nth zs k)
/-- Behind the turn: both parts fit for the two calls. -/
structure Tw2 (c : Int → Int → Int) (ys : List Int) (a s mid e b : Nat) : Prop where
  s1 : So c ys a s
  s2 : So c ys s mid
  s3 : So c ys mid e
  s4 : So c ys e b
  l1 : Le2 ys a s mid
  l2 : Le2 ys mid e b
  x : ∀ i j, a ≤ i → i < mid → mid ≤ j → j < b → lx c (nth ys i) (nth ys j)
theorem cut_two {c : Int → Int → Int} {zs ys : List Int} {a m b s e mid : Nat} (h : CutQ c zs a m b s e) (hm : s + e = mid + m) (h1 : So c zs a m) (h2 : So c zs m b) (hl : Le2 zs a m b)
    (hy : Mv zs ys (rotN s m e)) : Tw2 c ys a s mid e b := by
  obtain ⟨b1, b2, b3, b4⟩ := h.b1
  have y1 : ∀ j, j < s → nth ys j = nth zs j := fun j hj => by rw [hy.2]; unfold rotN; rw [if_neg (by omega), if_neg (by omega)]
  have y2 : ∀ j, s ≤ j → j < mid → nth ys j = nth zs (m + (j - s)) := fun j p1 p2 => by rw [hy.2]; unfold rotN; rw [if_pos (by omega)]
  have y3 : ∀ j, mid ≤ j → j < e → nth ys j = nth zs (j - (e - m)) := fun j p1 p2 => by rw [hy.2]; unfold rotN; rw [if_neg (by omega), if_pos (by omega)]
  have y4 : ∀ j, e ≤ j → nth ys j = nth zs j := fun j hj => by rw [hy.2]; unfold rotN; rw [if_neg (by omega), if_neg (by omega)]
  refine ⟨fun i j p q r => ?_, fun i j p q r => ?_, fun i j p q r => ?_, fun i j p q r => ?_, fun i j p q r t => ?_, fun i j p q r t => ?_, fun i j p q r t => ?_⟩
  · rw [y1 i (by omega), y1 j (by omega)]; exact h1 _ _ p q (by omega)
  · rw [y2 i (by omega) (by omega), y2 j (by omega) (by omega)]; exact h2 _ _ (by omega) (by omega) (by omega)
  · rw [y3 i (by omega) (by omega), y3 j (by omega) (by omega)]; exact h1 _ _ (by omega) (by omega) (by omega)
  · rw [y4 i (by omega), y4 j (by omega)]; exact h2 _ _ (by omega) (by omega) (by omega)
  · rw [y1 i (by omega), y2 j (by omega) (by omega)]; exact hl _ _ (by omega) (by omega) (by omega) (by omega)
  · rw [y3 i (by omega) (by omega), y4 j (by omega)]; exact hl _ _ (by omega) (by omega) (by omega) (by omega)
  · by_cases hi : i < s
    · rw [y1 i hi]
      by_cases hj : j < e
      · rw [y3 j (by omega) hj]; exact h1 _ _ (by omega) (by omega) (by omega)
      · rw [y4 j (by omega)]; exact h.lo _ _ (by omega) (by omega) (by omega) (by omega)
    · rw [y2 i (by omega) (by omega)]
      by_cases hj : j < e
      · rw [y3 j (by omega) hj]; exact h.hi _ _ (by omega) (by omega) (by omega) (by omega)
      · rw [y4 j (by omega)]; exact h2 _ _ (by omega) (by omega) (by omega)
/-- Both parts put in order: the whole. -/
theorem two_so {c : Int → Int → Int} {ys us vs : List Int} {a mid b : Nat} (h1 : a ≤ mid) (h2 : mid ≤ b) (x : ∀ i j, a ≤ i → i < mid → mid ≤ j → j < b → lx c (nth ys i) (nth ys j))
    (p1 : PmQ ys us a mid) (o1 : So c us a mid) (p2 : PmQ us vs mid b) (o2 : So c vs mid b) : PmQ ys vs a b ∧ So c vs a b := by
  refine ⟨(p1.wide (Nat.le_refl _) h2).trans (p2.wide h1 (Nat.le_refl _)), fun i j p q r => ?_⟩
  by_cases hi : i < mid
  · rw [p2.out i (by omega)]
    by_cases hj : j < mid
    · rw [p2.out j (by omega)]; exact o1 _ _ p q hj
    · obtain ⟨k, k1, k2, e⟩ := p1.ins i p hi
      obtain ⟨l, l1, l2, e2⟩ := p2.ins j (by omega) r
      rw [e, e2, p1.out l (by omega)]
      exact x _ _ k1 k2 l1 l2
  · exact o2 _ _ (by omega) q r
theorem So.out {c : Int → Int → Int} {zs ys : List Int} {a b a' b' : Nat} (h : So c zs a b) (p : PmQ zs ys a' b') (d : b ≤ a' ∨ b' ≤ a) : So c ys a b := fun i j h1 h2 h3 => by
  rw [p.out i (by omega), p.out j (by omega)]; exact h i j h1 h2 h3
theorem Le2.out {zs ys : List Int} {a m b a' b' : Nat} (h : Le2 zs a m b) (p : PmQ zs ys a' b') (d : b ≤ a' ∨ b' ≤ a) : Le2 ys a m b := fun i j h1 h2 h3 h4 => by
  rw [p.out i (by omega), p.out j (by omega)]; exact h i j h1 h2 h3 h4
theorem So.none (c : Int → Int → Int) (zs : List Int) {a b : Nat} (h : b ≤ a + 1) : So c zs a b := fun i j h1 h2 h3 => by omega
end Go.Proofs.YtmepcenbaohcoaaGreat
