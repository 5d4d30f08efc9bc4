
/- ShowGrid: all its numbers in one place. -/

import Derived.Test.YtcknmfhbjkadcaaGreatDoorVR

import Derived.Lib.SplitLaws

import Derived.Lib.FieldsLaws

import Derived.Lib.Join

namespace Go.Proofs.YtcknmfhbjkadcaaGreatDoor

open Go.RowKit

set_option linter.unusedVariables false

/-! ### cut at newlines -/

theorem idx_hit (c : UInt8) : ∀ (a b : List UInt8), c ∉ a → Lib.index (a ++ c :: b) [c] = (a.length : Int)
  | [], b, _ => by rw [Lib.index_one]; simp [Lib.indexByte]
  | x :: a, b, h => by
    have ih := idx_hit c a b (fun m => h (List.mem_cons_of_mem _ m))
    rw [Lib.index_one] at ih ⊢
    have hx : ¬ (x == c) = true := fun e => h (by rw [eq_of_beq e]; exact List.mem_cons_self)
    show (if (x == c) = true then (0 : Int) else if (Lib.indexByte (a ++ c :: b) c == -1) = true then -1 else Lib.indexByte (a ++ c :: b) c + 1) = _
    rw [if_neg hx, ih, if_neg (by simp)]
    simp
theorem idx_miss (c : UInt8) : ∀ (a : List UInt8), c ∉ a → Lib.index a [c] = -1
  | [], _ => by rw [Lib.index_one]; rfl
  | x :: a, h => by
    have ih := idx_miss c a (fun m => h (List.mem_cons_of_mem _ m))
    rw [Lib.index_one] at ih ⊢
    have hx : ¬ (x == c) = true := fun e => h (by rw [eq_of_beq e]; exact List.mem_cons_self)
    show (if (x == c) = true then (0 : Int) else if (Lib.indexByte a c == -1) = true then -1 else Lib.indexByte a c + 1) = _
    rw [if_neg hx, ih]; rfl
theorem split_miss (c : UInt8) (a : List UInt8) (h : c ∉ a) : Lib.split a [c] = [a] := by
  unfold Lib.split
  rw [Lib.count_miss (idx_miss c a h)]; rfl
theorem split_hit (c : UInt8) (a b : List UInt8) (h : c ∉ a) : Lib.split (a ++ c :: b) [c] = a :: Lib.split b [c] := by
  unfold Lib.split
  have e := idx_hit c a b h
  have d : (a ++ c :: b).drop (a.length + 1) = b := by rw [← List.drop_drop]; simp
  have k := Lib.count_hit (sub := [c]) (by simp) e
  rw [show ([c] : List UInt8).length = 1 from rfl, d] at k
  rw [k, Nat.add_comm 1]
  show (if (Lib.index (a ++ c :: b) [c] == -1) = true then [a ++ c :: b] else (a ++ c :: b).take ((Lib.index (a ++ c :: b) [c]).toNat + 0) :: Lib.splitK [c] 0 (Lib.count b [c]) ((a ++ c :: b).drop ((Lib.index (a ++ c :: b) [c]).toNat + ([c] : List UInt8).length))) = _
  rw [if_neg (by rw [e]; simp), e]
  rw [show ((a.length : Int).toNat) = a.length by simp, Nat.add_zero, show ([c] : List UInt8).length = 1 from rfl, d]
  simp
/-- Lines with empty ones between them. -/
def glue (ps : List (Nat × List UInt8)) : List UInt8 := ps.flatMap fun p => List.replicate (p.1 + 1) 10 ++ p.2
def lns (ps : List (Nat × List UInt8)) : List (List UInt8) := ps.flatMap fun p => List.replicate p.1 [] ++ [p.2]
theorem split_nls : ∀ (n : Nat) (b : List UInt8), Lib.split (List.replicate n 10 ++ b) [10] = List.replicate n [] ++ Lib.split b [10]
  | 0, b => rfl
  | n + 1, b => by
    have := split_hit 10 [] (List.replicate n 10 ++ b) (by simp)
    rw [split_nls n b] at this
    exact this
theorem split_glue : ∀ (ps : List (Nat × List UInt8)) (a : List UInt8), (10 : UInt8) ∉ a → (∀ p ∈ ps, (10 : UInt8) ∉ p.2) → Lib.split (a ++ glue ps) [10] = a :: lns ps
  | [], a, ha, _ => by
    show Lib.split (a ++ []) [10] = [a]
    rw [List.append_nil]; exact split_miss 10 a ha
  | (n, b) :: ps, a, ha, h => by
    have ih := split_glue ps b (h (n, b) List.mem_cons_self) (fun p m => h p (List.mem_cons_of_mem _ m))
    have e : a ++ glue ((n, b) :: ps) = a ++ 10 :: (List.replicate n 10 ++ (b ++ glue ps)) := by
      simp [glue, List.replicate_succ]
    rw [e, split_hit 10 a _ ha, split_nls, ih]
    simp [lns]

/-! ### words between blanks -/

theorem go_word : ∀ (w cur l : List UInt8), (∀ b ∈ w, Lib.isSp b = false) → Lib.fieldsGo cur (w ++ l) = Lib.fieldsGo (cur ++ w) l
  | [], cur, l, _ => by simp
  | b :: w, cur, l, h => by
    have hb := h b List.mem_cons_self
    show Lib.fieldsGo cur (b :: (w ++ l)) = _
    rw [Lib.fieldsGo, hb, if_neg (by decide), go_word w (cur ++ [b]) l (fun x m => h x (List.mem_cons_of_mem _ m))]
    simp
theorem go_blanks : ∀ (n : Nat) (l : List UInt8), Lib.fieldsGo [] (List.replicate n 32 ++ l) = Lib.fieldsGo [] l
  | 0, l => rfl
  | n + 1, l => by
    show Lib.fieldsGo [] (32 :: (List.replicate n 32 ++ l)) = _
    rw [Lib.fieldsGo, if_pos (by decide), if_pos (show ([] : List UInt8).isEmpty = true from rfl), go_blanks n l]
theorem go_end (cur : List UInt8) (hc : cur ≠ []) (l : List UInt8) : Lib.fieldsGo cur (32 :: l) = cur :: Lib.fieldsGo [] l := by
  rw [Lib.fieldsGo, if_pos (by decide), if_neg (by simpa using hc)]
/-- A line of words, each behind blanks. -/
def lin (cs : List (Nat × List UInt8)) : List UInt8 := cs.flatMap fun c => List.replicate c.1 32 ++ c.2
theorem go_lin : ∀ (cs : List (Nat × List UInt8)) (cur : List UInt8), cur ≠ [] → (∀ c ∈ cs, 1 ≤ c.1 ∧ c.2 ≠ [] ∧ ∀ b ∈ c.2, Lib.isSp b = false) → Lib.fieldsGo cur (lin cs) = cur :: cs.map (·.2)
  | [], cur, hc, _ => by
    show Lib.fieldsGo cur [] = _
    rw [Lib.fieldsGo, if_neg (by simpa using hc)]; rfl
  | (n, w) :: cs, cur, hc, h => by
    obtain ⟨h1, h2, h3⟩ := h (n, w) List.mem_cons_self
    obtain ⟨k, rfl⟩ : ∃ k, n = k + 1 := ⟨n - 1, by simp at h1; omega⟩
    have ih := go_lin cs w h2 (fun c m => h c (List.mem_cons_of_mem _ m))
    have e : lin ((k + 1, w) :: cs) = 32 :: (List.replicate k 32 ++ (w ++ lin cs)) := by simp [lin, List.replicate_succ]
    rw [e, go_end cur hc, go_blanks, go_word w [] _ h3, List.nil_append, ih]; rfl
theorem fields_lin (n : Nat) (w : List UInt8) (cs : List (Nat × List UInt8)) (hw : w ≠ [] ∧ ∀ b ∈ w, Lib.isSp b = false) (h : ∀ c ∈ cs, 1 ≤ c.1 ∧ c.2 ≠ [] ∧ ∀ b ∈ c.2, Lib.isSp b = false) : Lib.fields (lin ((n, w) :: cs)) = w :: cs.map (·.2) := by
  unfold Lib.fields
  have e : lin ((n, w) :: cs) = List.replicate n 32 ++ (w ++ lin cs) := by simp [lin]
  rw [e, go_blanks, go_word w [] _ hw.2, List.nil_append, go_lin cs w hw.1 h]
theorem wrt_plain (z : Int) : wrt z ≠ [] ∧ (∀ b ∈ wrt z, Lib.isSp b = false) ∧ (∀ b ∈ wrt z, b ≠ 10) ∧ (∀ b ∈ wrt z, b.toNat < 128) := by
  have key : ∀ b : UInt8, isD b = true ∨ b = 95 → Lib.isSp b = false ∧ b ≠ 10 ∧ b.toNat < 128 := by
    intro b hb
    have : ∀ n : Fin 256, (isD (UInt8.ofNat n.val) = true ∨ UInt8.ofNat n.val = 95) → Lib.isSp (UInt8.ofNat n.val) = false ∧ UInt8.ofNat n.val ≠ 10 ∧ (UInt8.ofNat n.val).toNat < 128 := by decide +kernel
    have e := this ⟨b.toNat, b.toNat_lt⟩
    rw [show UInt8.ofNat (⟨b.toNat, b.toNat_lt⟩ : Fin 256).val = b by simp] at e
    exact e hb
  have mem : ∀ b ∈ wrt z, isD b = true ∨ b = 95 := by
    intro b hb
    unfold wrt at hb
    split at hb
    · rcases List.mem_cons.1 hb with e | m
      · exact .inr e
      · exact .inl (dec_digits _ b m)
    · exact .inl (dec_digits _ b hb)
  refine ⟨?_, fun b m => (key b (mem b m)).1, fun b m => (key b (mem b m)).2.1, fun b m => (key b (mem b m)).2.2⟩
  unfold wrt
  split
  · simp
  · exact dec_ne _
end Go.Proofs.YtcknmfhbjkadcaaGreatDoor

namespace Go.Proofs.YtcknmfhbjkadcaaGreatDoor

open Go.RowKit

set_option linter.unusedVariables false

theorem nth_left {a b : List Int} {i : Nat} (h : i < a.length) : nth (a ++ b) i = nth a i := by
  unfold nth
  rw [List.getD_eq_getElem?_getD, List.getD_eq_getElem?_getD, List.getElem?_append_left h]
theorem nth_last (a : List Int) (z : Int) : nth (a ++ [z]) a.length = z := by
  unfold nth
  rw [List.getD_eq_getElem?_getD, List.getElem?_append_right (Nat.le_refl _)]; simp
theorem place_div {m r c : Nat} (hc : c < m) : ((r * m + c : Nat) : Int) / (m : Int) = (r : Int) := by
  rw [← Int.natCast_ediv, Nat.mul_comm, Nat.mul_add_div (by omega), Nat.div_eq_of_lt hc, Nat.add_zero]
theorem place_mod {m r c : Nat} (hc : c < m) : ((r * m + c : Nat) : Int) % (m : Int) = (c : Int) := by
  rw [← Int.natCast_emod, Nat.mul_comm, Nat.mul_add_mod, Nat.mod_eq_of_lt hc]
theorem digs_snoc (S' : List Int) {m r c : Nat} (hc : c < m) : digs (S' ++ [(m : Int)]) ((r * m + c : Nat) : Int) = digs S' (r : Int) ++ [(c : Int)] := by
  unfold digs digK
  rw [List.length_append, List.length_singleton, List.range_succ, List.map_append]
  congr 1
  · apply List.map_congr_left
    intro i hi
    have hi' := List.mem_range.1 hi
    rw [if_pos (Nat.zero_le _), if_pos (Nat.zero_le _)]
    unfold dg
    rw [nth_left hi', List.drop_append_of_le_length (by omega), pr_snoc, Int.mul_comm, ← Int.ediv_ediv_of_nonneg (by omega), place_div hc]
  · show [if 0 ≤ S'.length then dg (S' ++ [(m : Int)]) ((r * m + c : Nat) : Int) S'.length else 0] = _
    rw [if_pos (Nat.zero_le _)]
    unfold dg
    rw [nth_last, List.drop_eq_nil_of_le (by simp), show pr ([] : List Int) = 1 from rfl, Int.ediv_one, place_mod hc]
theorem trz_snoc (D : List Int) (c : Int) : trz (D ++ [c]) = if c = 0 then trz D + 1 else 0 := by
  unfold trz
  rw [List.reverse_append]
  show (List.takeWhile (· == 0) (c :: D.reverse)).length = _
  rw [List.takeWhile_cons]
  by_cases h : c = 0
  · subst h; simp
  · rw [if_neg h, if_neg (by simpa using h)]; rfl

section

variable (S' A : List Int) (m an : Nat)

/-- One cell of the grid: the blanks ahead of it, and the number. -/
def cel (r c : Nat) : Nat × List UInt8 := ((if c = 0 then 0 else 1) + ((nth (widK (S' ++ [(m : Int)]) A m an) c).toNat - (wrt (nth A (r * m + c))).length), wrt (nth A (r * m + c)))
def cels (r c : Nat) : List (Nat × List UInt8) := (List.range c).map (cel S' A m an r)
def lineT (r : Nat) : List UInt8 := lin (cels S' A m an r m)
end

variable {S' A : List Int} {m an : Nat}

theorem col_snoc {r c : Nat} (hc : c < m) : colN (S' ++ [(m : Int)]) (r * m + c) = c := by
  unfold colN
  have e : (S' ++ [(m : Int)]).length - 1 = (digs S' (r : Int)).length := by rw [digs_len]; simp
  rw [digs_snoc S' hc, e, nth_last]; simp
theorem lin_snoc (cs : List (Nat × List UInt8)) (x : Nat × List UInt8) : lin (cs ++ [x]) = lin cs ++ (List.replicate x.1 32 ++ x.2) := by simp [lin]
theorem cels_succ (r c : Nat) : cels S' A m an r (c + 1) = cels S' A m an r c ++ [cel S' A m an r c] := by
  unfold cels; rw [List.range_succ, List.map_append]; rfl
theorem tx_row (r : Nat) : ∀ c, c ≤ m → txK (S' ++ [(m : Int)]) A m an (r * m + c) = txK (S' ++ [(m : Int)]) A m an (r * m) ++ ((if c = 0 ∨ r = 0 then [] else List.replicate (trz (digs S' (r : Int)) + 1) 10) ++ lin (cels S' A m an r c))
  | 0, _ => by simp [cels, lin]
  | c + 1, h => by
    have ih := tx_row r c (by omega)
    rw [← Nat.add_assoc]
    show txK (S' ++ [(m : Int)]) A m an (r * m + c) ++ pceT (S' ++ [(m : Int)]) A m an (r * m + c) = _
    rw [ih, cels_succ, lin_snoc]
    unfold pceT btw cel
    rw [col_snoc (by omega), digs_snoc S' (by omega), trz_snoc]
    by_cases hc : c = 0
    · subst hc
      by_cases hr : r = 0
      · subst hr; simp [cels, lin]
      · have hk : ¬ r * m + 0 = 0 := by
          have := Nat.mul_pos (Nat.pos_of_ne_zero hr) (show 0 < m by omega); omega
        rw [if_neg hk, if_pos (show (0 : Nat) = 0 ∨ r = 0 from .inl rfl), if_neg (show ¬ (0 + 1 = 0 ∨ r = 0) by omega)]
        simp [cels, lin]
    · have hk : ¬ r * m + c = 0 := by omega
      have hz : ¬ (c : Int) = 0 := by omega
      rw [if_neg hk, if_neg hz, if_pos rfl, if_neg hc, show (if c = 0 ∨ r = 0 then ([] : List UInt8) else List.replicate (trz (digs S' (r : Int)) + 1) 10) = (if c + 1 = 0 ∨ r = 0 then ([] : List UInt8) else List.replicate (trz (digs S' (r : Int)) + 1) 10) by simp [hc]]
      rw [Nat.add_comm 1]
      simp only [List.replicate_succ, List.append_assoc, List.cons_append, List.nil_append]
/-- The lines behind the first one, each with how many empty ones stand ahead of it. -/
def rws (S' A : List Int) (m an R : Nat) : List (Nat × List UInt8) := (List.range R).map fun r => (trz (digs S' ((r + 1 : Nat) : Int)), lineT S' A m an (r + 1))
theorem tx_all (hm : 0 < m) : ∀ R, txK (S' ++ [(m : Int)]) A m an ((R + 1) * m) = lineT S' A m an 0 ++ glue (rws S' A m an R)
  | 0 => by
    have := tx_row (S' := S') (A := A) (m := m) (an := an) 0 m (Nat.le_refl _)
    rw [Nat.zero_mul, Nat.zero_add] at this
    rw [Nat.zero_add, Nat.one_mul, this]
    simp [txK, lineT, glue, rws]
  | R + 1 => by
    have ih := tx_all hm R
    have := tx_row (S' := S') (A := A) (m := m) (an := an) (R + 1) m (Nat.le_refl _)
    rw [show (R + 1 + 1) * m = (R + 1) * m + m by rw [Nat.add_mul (R + 1) 1, Nat.one_mul], this, ih]
    rw [if_neg (by omega)]
    simp [rws, glue, List.range_succ, lineT]
end Go.Proofs.YtcknmfhbjkadcaaGreatDoor

namespace Go.Proofs.YtcknmfhbjkadcaaGreatDoor

open Go.RowKit

set_option linter.unusedVariables false

variable {S' A : List Int} {m an : Nat}

theorem cel_len {r c : Nat} (hc : c < m) (hk : r * m + c < an) : (cel S' A m an r c).1 + (cel S' A m an r c).2.length = (if c = 0 then 0 else 1) + (nth (widK (S' ++ [(m : Int)]) A m an) c).toNat := by
  have h := widK_has (S' ++ [(m : Int)]) A m an (r * m + c) hk (by rw [col_snoc hc]; exact hc)
  rw [col_snoc hc] at h
  unfold cel
  show (if c = 0 then 0 else 1) + ((nth (widK (S' ++ [(m : Int)]) A m an) c).toNat - (wrt (nth A (r * m + c))).length) + (wrt (nth A (r * m + c))).length = _
  omega
theorem len_cels {r : Nat} : ∀ c, c ≤ m → r * m + c ≤ an → (lin (cels S' A m an r c)).length = ((List.range c).map fun c => (if c = 0 then 0 else 1) + (nth (widK (S' ++ [(m : Int)]) A m an) c).toNat).sum
  | 0, _, _ => rfl
  | c + 1, h, k => by
    have ih := len_cels (r := r) c (by omega) (by omega)
    have e := cel_len (S' := S') (A := A) (m := m) (an := an) (r := r) (c := c) (by omega) (by omega)
    rw [cels_succ, lin_snoc, List.range_succ, List.map_append, List.sum_append, List.length_append, ih, List.length_append, List.length_replicate, e]
    simp
theorem line_len {r : Nat} (h : (r + 1) * m ≤ an) : (lineT S' A m an r).length = (lineT S' A m an 0).length := by
  have e : (r + 1) * m = r * m + m := by rw [Nat.add_mul, Nat.one_mul]
  unfold lineT
  rw [len_cels (r := r) m (Nat.le_refl _) (by omega), len_cels (r := 0) m (Nat.le_refl _) (by omega)]
theorem mem_lin {cs : List (Nat × List UInt8)} {b : UInt8} (h : b ∈ lin cs) : b = 32 ∨ ∃ c ∈ cs, b ∈ c.2 := by
  unfold lin at h
  obtain ⟨c, hc, hb⟩ := List.mem_flatMap.1 h
  rcases List.mem_append.1 hb with m | m
  · exact .inl (List.mem_replicate.1 m).2
  · exact .inr ⟨c, hc, m⟩
theorem mem_line {r : Nat} {b : UInt8} (h : b ∈ lineT S' A m an r) : b = 32 ∨ ∃ z, b ∈ wrt z := by
  rcases mem_lin h with e | ⟨c, hc, hb⟩
  · exact .inl e
  · unfold cels at hc
    obtain ⟨k, _, rfl⟩ := List.mem_map.1 hc
    exact .inr ⟨_, hb⟩
theorem line_no10 (r : Nat) : (10 : UInt8) ∉ lineT S' A m an r := fun h => by
  rcases mem_line h with e | ⟨z, hz⟩
  · exact absurd e (by decide)
  · exact (wrt_plain z).2.2.1 _ hz rfl
theorem line_ascii (r : Nat) : ∀ b ∈ lineT S' A m an r, b.toNat < 128 := fun b h => by
  rcases mem_line h with rfl | ⟨z, hz⟩
  · decide
  · exact (wrt_plain z).2.2.2 _ hz
theorem line_words (r : Nat) (hm : 0 < m) : Lib.fields (lineT S' A m an r) = (List.range m).map fun c => wrt (nth A (r * m + c)) := by
  obtain ⟨k, rfl⟩ : ∃ k, m = k + 1 := ⟨m - 1, by omega⟩
  have e : lineT S' A (k + 1) an r = lin (((cel S' A (k + 1) an r 0).1, (cel S' A (k + 1) an r 0).2) :: (List.range k).map fun c => cel S' A (k + 1) an r (c + 1)) := by
    unfold lineT cels
    rw [List.range_succ_eq_map, List.map_cons, List.map_map]; rfl
  rw [e, fields_lin]
  · rw [List.range_succ_eq_map, List.map_cons, List.map_map, List.map_map]; rfl
  · exact ⟨(wrt_plain _).1, (wrt_plain _).2.1⟩
  · intro c hc
    obtain ⟨j, _, rfl⟩ := List.mem_map.1 hc
    refine ⟨?_, (wrt_plain _).1, (wrt_plain _).2.1⟩
    show 1 ≤ (if j + 1 = 0 then 0 else 1) + _
    rw [if_neg (by omega)]; omega
theorem line_ne (r : Nat) (hm : 0 < m) : lineT S' A m an r ≠ [] := fun h => by
  have e := line_words (S' := S') (A := A) (m := m) (an := an) r hm
  rw [h] at e
  have := congrArg List.length e
  simp [Lib.fields, Lib.fieldsGo] at this
  omega
/-! ### where each line stands -/

def Ps : List (Nat × List UInt8) → Nat → Nat
  | _, 0 => 0
  | [], _ + 1 => 0
  | p :: ps, j + 1 => p.1 + 1 + Ps ps j
theorem ps_succ : ∀ (ps : List (Nat × List UInt8)) (j : Nat) (h : j < ps.length), Ps ps (j + 1) = Ps ps j + ps[j].1 + 1
  | [], j, h => absurd h (by simp)
  | p :: ps, 0, _ => by cases ps <;> simp [Ps]
  | p :: ps, j + 1, h => by
    have h' : j < ps.length := by simpa using h
    have ih := ps_succ ps j h'
    show p.1 + 1 + Ps ps (j + 1) = p.1 + 1 + Ps ps j + ps[j].1 + 1
    rw [ih]; omega
theorem line_at : ∀ (ps : List (Nat × List UInt8)) (a : List UInt8) (j : Nat) (h : j < ps.length), (a :: lns ps)[Ps ps (j + 1)]? = some ps[j].2 ∧ ∀ g, g < ps[j].1 → (a :: lns ps)[Ps ps j + 1 + g]? = some []
  | [], a, j, h => absurd h (by simp)
  | (n, l) :: ps, a, 0, _ => by
    have e : lns ((n, l) :: ps) = List.replicate n [] ++ (l :: lns ps) := by simp [lns]
    refine ⟨?_, fun g hg => ?_⟩
    · show (a :: lns ((n, l) :: ps))[n + 1 + Ps ps 0]? = some l
      rw [show Ps ps 0 = 0 by cases ps <;> rfl, Nat.add_zero, List.getElem?_cons_succ, e, List.getElem?_append_right (by simp)]
      simp
    · show (a :: lns ((n, l) :: ps))[0 + 1 + g]? = some []
      have hg' : g < n := hg
      rw [show 0 + 1 + g = g + 1 by omega, List.getElem?_cons_succ, e, List.getElem?_append_left (by simpa using hg')]
      simp [hg']
  | (n, l) :: ps, a, j + 1, h => by
    have h' : j < ps.length := by simpa using h
    obtain ⟨i1, i2⟩ := line_at ps l j h'
    have e : a :: lns ((n, l) :: ps) = (a :: List.replicate n []) ++ (l :: lns ps) := by simp [lns]
    have sh : ∀ x, (a :: lns ((n, l) :: ps))[n + 1 + x]? = (l :: lns ps)[x]? := fun x => by
      rw [e, List.getElem?_append_right (by simp)]
      congr 1
      simp
    refine ⟨?_, fun g hg => ?_⟩
    · show (a :: lns ((n, l) :: ps))[n + 1 + Ps ps (j + 1)]? = some ps[j].2
      rw [sh]; exact i1
    · show (a :: lns ((n, l) :: ps))[n + 1 + Ps ps j + 1 + g]? = some []
      rw [show n + 1 + Ps ps j + 1 + g = n + 1 + (Ps ps j + 1 + g) by omega, sh]
      exact i2 g hg
theorem lines_len : ∀ (ps : List (Nat × List UInt8)), (lns ps).length = Ps ps ps.length
  | [] => rfl
  | (n, l) :: ps => by
    show (lns ((n, l) :: ps)).length = n + 1 + Ps ps ps.length
    rw [← lines_len ps]
    simp [lns]; omega
end Go.Proofs.YtcknmfhbjkadcaaGreatDoor

namespace Go.Proofs.YtcknmfhbjkadcaaGreatDoor

open Go.RowKit

set_option linter.unusedVariables false

theorem join_go : ∀ (A : List Int) (z : Int), Lib.join (wrt z :: A.map wrt) [32] = wrt z ++ sp A
  | [], z => by rw [List.map_nil, Lib.join_one, sp_nil, List.append_nil]
  | y :: A, z => by
    have ih := join_go A y
    unfold Lib.join at ih ⊢
    rw [List.map_cons, List.intercalate_cons_cons, ih, sp_cons]
    simp
theorem join_words {A : List Int} (h : A ≠ []) : Lib.join (A.map wrt) [32] = inL A := by
  cases A with
  | nil => exact absurd rfl h
  | cons z A => rw [List.map_cons, join_go, inL_cons]
theorem range_wrt (A : List Int) : (List.range A.length).map (fun k => wrt (nth A k)) = A.map wrt := by
  apply List.ext_getElem
  · simp
  · intro i h1 h2
    simp at h1
    simp [nth, h1]
/-- What ShowGrid asks of an array of rank 2 or above that has atoms. -/
theorem grid_facts {S A : List Int} (hm : mayA S A = 0) (h2 : 2 ≤ S.length) (hA : A ≠ []) : ∃ (S' : List Int) (m R : Nat), S = S' ++ [(m : Int)] ∧ 0 < m ∧ A.length = (R + 1) * m ∧ pr S' = ((R + 1 : Nat) : Int) ∧ mayF S' = 0 ∧
    Lib.split (txt S A) [10] = lineT S' A m A.length 0 :: lns (rws S' A m A.length R) := by
  obtain ⟨m1, m2⟩ := mayA_zero hm
  obtain ⟨z1, z2, z3⟩ := mayF_zero m1
  have hl : 0 < A.length := List.length_pos_iff.2 hA
  have hp : allPos S := allPos_of m1 (p := 0) (Int.le_refl _) (by omega)
  obtain ⟨S', z, rfl⟩ : ∃ S' z, S = S' ++ [z] := ⟨S.dropLast, S.getLast (by intro e; rw [e] at h2; simp at h2), (List.dropLast_concat_getLast _).symm⟩
  have hz := hp S'.length (by simp)
  rw [nth_last] at hz
  obtain ⟨m, rfl⟩ : ∃ m : Nat, z = (m : Int) := ⟨z.toNat, by omega⟩
  have hm0 : 0 < m := by omega
  rw [pr_snoc] at m2
  have pp : allPos S' := fun k hk => by have := hp k (by simp; omega); rwa [nth_left hk] at this
  have p1 := drop_pos' pp 0 (Nat.zero_le _)
  rw [List.drop_zero] at p1
  obtain ⟨R, hR⟩ : ∃ R : Nat, pr S' = ((R + 1 : Nat) : Int) := ⟨(pr S').toNat - 1, by omega⟩
  have hAl : A.length = (R + 1) * m := by
    rw [hR] at m2
    exact_mod_cast m2
  have f1 : mayF S' = 0 := by
    refine mayF_ok (fun k hk => Int.le_trans (by decide) (pp k hk)) (by simp at z2; omega) ?_
    rw [pz_snoc] at z3
    rw [if_neg (by omega)] at z3
    have q : 1 ≤ pz S' := by have := pz_pos (l := S') S'.length (Nat.le_refl _) (fun k hk => Int.le_trans (by decide) (pp k hk)); rwa [List.take_length] at this
    have : pz S' * 1 ≤ pz S' * (m : Int) := Int.mul_le_mul_of_nonneg_left hz (by omega)
    omega
  refine ⟨S', m, R, rfl, hm0, hAl, hR, f1, ?_⟩
  have e : txt (S' ++ [(m : Int)]) A = txK (S' ++ [(m : Int)]) A m A.length ((R + 1) * m) := by
    unfold txt
    rw [if_neg (by omega), show (S' ++ [(m : Int)]).length - 1 = S'.length by simp, nth_last, ← hAl]; simp
  rw [e, tx_all hm0]
  refine split_glue _ _ (line_no10 0) fun p hpm => ?_
  unfold rws at hpm
  obtain ⟨r, _, rfl⟩ := List.mem_map.1 hpm
  exact line_no10 (r + 1)
theorem rws_len (S' A : List Int) (m an R : Nat) : (rws S' A m an R).length = R := by simp [rws]
theorem rws_at {S' A : List Int} {m an R j : Nat} (h : j < (rws S' A m an R).length) : (rws S' A m an R)[j] = (trz (digs S' ((j + 1 : Nat) : Int)), lineT S' A m an (j + 1)) := by simp [rws]
/-- How many axes begin anew, by the law's own count. -/
theorem anew_zero {S' : List Int} {r t : Nat} (hm : mayF S' = 0) (hr : (r : Int) < pr S') (h0 : 0 < r) (ht : t < trz (digs S' (r : Int))) : nth (digs S' (r : Int)) (S'.length - 1 - t) = 0 ∧ 0 < S'.length - 1 - t := by
  have hl := trz_lt hm hr h0
  have := trz_zero (D := digs S' (r : Int)) ht (by rw [digs_len]; omega)
  rw [digs_len] at this
  exact ⟨this, by omega⟩
theorem anew_stop {S' : List Int} {r : Nat} (hm : mayF S' = 0) (hr : (r : Int) < pr S') (h0 : 0 < r) : nth (digs S' (r : Int)) (S'.length - 1 - trz (digs S' (r : Int))) ≠ 0 := by
  have hl := trz_lt hm hr h0
  have := trz_stop (D := digs S' (r : Int)) (by rw [digs_len]; exact hl)
  rwa [digs_len] at this
end Go.Proofs.YtcknmfhbjkadcaaGreatDoor
