
/- The reader of texts as a function of bytes; what it answers, both ways; no memory. -/

import Derived.Test.YtppcfpiihkaopaaGreatDoorVA

namespace Go.Proofs.YtppcfpiihkaopaaGreatDoor

open Go.Lib

set_option linter.unusedVariables false

/-- The byte at a place, -1 at the end. -/
def bt (l : List UInt8) (i : Nat) : Int := match l[i]? with | some b => (b.toNat : Int) | none => -1
/-- How many digits stand from there on. -/
def dgs (l : List UInt8) (i : Nat) : Nat := ((l.drop i).takeWhile isD).length
def pce (l : List UInt8) (a b : Nat) : List UInt8 := (l.drop a).take (b - a)
/-- A place and an error, or where the mark stands, the numbers ahead of it and those behind. -/
abbrev Rr := Sum (Nat × Int) (Int × List Int × List Int)
abbrev Rr.bad (p : Nat) (e : Int) : Rr := .inl (p, e)
abbrev Rr.ok (D : Int) (L N : List Int) : Rr := .inr (D, L, N)
def bhd (l : List UInt8) (k : Nat → Int → List Int → List Int → Rr) (at' : Nat) (D : Int) (L N : List Int) : Rr :=
  if bt l at' = 32 then k (at' + 1) D L N else if bt l at' = -1 then Rr.ok D L N else Rr.bad at' 37
def nmb (l : List UInt8) (k : Nat → Int → List Int → List Int → Rr) (fr upto : Nat) (D : Int) (L N : List Int) : Rr :=
  match parseIntB 64 (fixm (pce l fr upto)) with
  | .ok v => bhd l k upto D L (N ++ [v])
  | _ => Rr.bad fr 30
def scn (l : List UInt8) : Nat → Nat → Int → List Int → List Int → Rr
  | 0, at', D, L, N => Rr.bad 0 37
  | f + 1, at', D, L, N =>
    if bt l at' = 95 then
      if 49 ≤ bt l (at' + 1) ∧ bt l (at' + 1) ≤ 57 then nmb l (scn l f) at' (at' + 2 + dgs l (at' + 2)) D L N else Rr.bad (at' + 1) 37
    else if bt l at' = 48 then nmb l (scn l f) at' (at' + 1) D L N
    else if 49 ≤ bt l at' ∧ bt l at' ≤ 57 then nmb l (scn l f) at' (at' + 1 + dgs l (at' + 1)) D L N
    else if bt l at' = 36 ∧ D = -1 then bhd l (scn l f) (at' + 1) at' N []
    else Rr.bad at' 37

theorem bt_some {l : List UInt8} {i : Nat} {b : UInt8} (h : l[i]? = some b) : bt l i = b.toNat := by unfold bt; rw [h]
theorem bt_none {l : List UInt8} {i : Nat} (h : l.length ≤ i) : bt l i = -1 := by unfold bt; rw [List.getElem?_eq_none h]
theorem bt_lt {l : List UInt8} {i : Nat} (h : 0 ≤ bt l i) : ∃ b, l[i]? = some b ∧ bt l i = b.toNat ∧ i < l.length := by
  unfold bt at *
  cases e : l[i]? with
  | none => rw [e] at h; simp at h
  | some b => exact ⟨b, rfl, rfl, (List.getElem?_eq_some_iff.1 e).1⟩
theorem bt_end {l : List UInt8} {i : Nat} (h : bt l i = -1) : l.length ≤ i := by
  unfold bt at h
  cases e : l[i]? with
  | none => exact List.getElem?_eq_none_iff.1 e
  | some b => rw [e] at h; simp at h
theorem byte_eq {b : UInt8} {n : Nat} (h : b.toNat = n) : b = UInt8.ofNat n := by rw [← h, UInt8.ofNat_toNat]
theorem dgs_le (l : List UInt8) (i : Nat) (h : i ≤ l.length) : i + dgs l i ≤ l.length := by
  have e := (List.takeWhile_prefix isD (l := l.drop i)).length_le
  have : dgs l i ≤ (l.drop i).length := e
  rw [List.length_drop] at this
  omega
theorem take_dgs (l : List UInt8) (i : Nat) : (l.drop i).take (dgs l i) = (l.drop i).takeWhile isD :=
  (List.prefix_iff_eq_take.1 (List.takeWhile_prefix isD)).symm
theorem mem_while {l : List UInt8} {b : UInt8} (h : b ∈ l.takeWhile isD) : isD b = true := by
  induction l with
  | nil => simp at h
  | cons c l ih =>
    rw [List.takeWhile_cons] at h
    split at h
    · rename_i hc
      rcases List.mem_cons.1 h with rfl | h
      · exact hc
      · exact ih h
    · simp at h
theorem dgs_digit {l : List UInt8} {i : Nat} {b : UInt8} (h : l[i]? = some b) (hd : isD b = true) : dgs l i = 1 + dgs l (i + 1) := by
  have hi := (List.getElem?_eq_some_iff.1 h)
  unfold dgs
  rw [List.drop_eq_getElem_cons hi.1, hi.2, List.takeWhile_cons, if_pos hd, List.length_cons]; omega
theorem dgs_none {l : List UInt8} {i : Nat} (h : ¬ (48 ≤ bt l i ∧ bt l i ≤ 57)) : dgs l i = 0 := by
  unfold dgs
  cases e : l[i]? with
  | none => rw [List.drop_eq_nil_of_le (List.getElem?_eq_none_iff.1 e)]; rfl
  | some b =>
    have hi := (List.getElem?_eq_some_iff.1 e)
    rw [bt_some e] at h
    rw [List.drop_eq_getElem_cons hi.1, hi.2, List.takeWhile_cons, if_neg (by simp only [isD, Bool.and_eq_true, decide_eq_true_eq]; omega)]; rfl
theorem dgs_some {l : List UInt8} {i : Nat} (h : 48 ≤ bt l i ∧ bt l i ≤ 57) : dgs l i = 1 + dgs l (i + 1) := by
  obtain ⟨b, e, eb, _⟩ := bt_lt (l := l) (i := i) (by omega)
  rw [eb] at h
  exact dgs_digit e (by simp only [isD, Bool.and_eq_true, decide_eq_true_eq]; omega)

/-! ### what is read is what is written -/

/-- The words so far, a blank ahead of each. -/
def spW (D : Int) (L N : List Int) : List UInt8 := if D = -1 then sp N else sp L ++ 32 :: 36 :: sp N
def In64 (N : List Int) : Prop := ∀ n ∈ N, -9223372036854775808 ≤ n ∧ n ≤ 9223372036854775807
structure Wds (D : Int) (L N : List Int) : Prop where
  l0 : D = -1 → L = []
  d0 : D ≠ -1 → D = (sp L).length
  nL : In64 L
  nN : In64 N
theorem spW_snoc (D : Int) (L N : List Int) (v : Int) : spW D L (N ++ [v]) = spW D L N ++ 32 :: wrt v := by
  unfold spW
  split
  · rw [sp_app, sp_cons, sp_nil]; simp
  · rw [sp_app, sp_cons, sp_nil]; simp
theorem in64_snoc {N : List Int} {v : Int} (h : In64 N) (h0 : -9223372036854775808 ≤ v) (h1 : v ≤ 9223372036854775807) : In64 (N ++ [v]) := by
  intro n hn
  rcases List.mem_append.1 hn with hn | hn
  · exact h n hn
  · rw [List.mem_singleton.1 hn]; exact ⟨h0, h1⟩
def Good (l : List UInt8) : Rr → Prop
  | .inl (p, e) => p ≤ l.length ∧ e ≠ 0 ∧ e ≠ 17
  | .inr (D, L, N) => Wds D L N ∧ 32 :: l = spW D L N
theorem bhd_good {l : List UInt8} {k : Nat → Int → List Int → List Int → Rr} (hk : ∀ at' D L N, at' ≤ l.length → Wds D L N → 32 :: l.take at' = spW D L N ++ [32] → Good l (k at' D L N))
    {upto : Nat} {D : Int} {L N : List Int} (ht : upto ≤ l.length) (hw : Wds D L N) (h : 32 :: l.take upto = spW D L N) : Good l (bhd l k upto D L N) := by
  unfold bhd
  split
  · rename_i h32
    obtain ⟨b, e, eb, hlt⟩ := bt_lt (l := l) (i := upto) (by omega)
    have e2 := (List.getElem?_eq_some_iff.1 e).2
    refine hk _ _ _ _ (by omega) hw ?_
    have hb : b = 32 := byte_eq (n := 32) (by omega)
    rw [List.take_add_one, e, ← h, hb]; simp
  · split
    · rename_i h1
      refine ⟨hw, ?_⟩
      rw [← h, List.take_of_length_le (bt_end h1)]
    · exact ⟨ht, by decide, by decide⟩
theorem take_pce {l : List UInt8} {a b : Nat} (h : a ≤ b) : l.take b = l.take a ++ pce l a b := by
  unfold pce
  rw [← List.take_add, show a + (b - a) = b by omega]
theorem nmb_good {l : List UInt8} {k : Nat → Int → List Int → List Int → Rr} (hk : ∀ at' D L N, at' ≤ l.length → Wds D L N → 32 :: l.take at' = spW D L N ++ [32] → Good l (k at' D L N))
    {fr upto : Nat} {D : Int} {L N : List Int} (hf : fr ≤ upto) (ht : upto ≤ l.length) (hw : Wds D L N) (h : 32 :: l.take fr = spW D L N ++ [32]) (hc : Can (pce l fr upto)) : Good l (nmb l k fr upto D L N) := by
  unfold nmb
  rcases read_can hc with ⟨v, hp⟩ | hp
  rotate_left
  · rw [hp]; exact ⟨by omega, by decide, by decide⟩
  · rw [hp]
    have e := wr_read hc hp
    have hb := parseIntB_bounds hp
    rw [p63] at hb
    refine bhd_good hk ht ⟨hw.l0, hw.d0, hw.nL, in64_snoc hw.nN (by omega) (by omega)⟩ ?_
    rw [take_pce hf, ← List.cons_append, h, spW_snoc, e, List.append_assoc]; rfl
theorem pce_cons {l : List UInt8} {a k : Nat} {c : UInt8} (h : l[a]? = some c) : pce l a (a + 1 + k) = c :: (l.drop (a + 1)).take k := by
  have hi := List.getElem?_eq_some_iff.1 h
  unfold pce
  rw [show a + 1 + k - a = k + 1 by omega, List.drop_eq_getElem_cons hi.1, List.take_succ_cons, hi.2]
theorem can_pos {l : List UInt8} {a : Nat} (h : 49 ≤ bt l a ∧ bt l a ≤ 57) : a < l.length ∧ Can (pce l a (a + 1 + dgs l (a + 1))) := by
  obtain ⟨c, e, ec, hlt⟩ := bt_lt (l := l) (i := a) (by omega)
  refine ⟨hlt, .inr (.inl ⟨c, _, pce_cons e, by omega, by omega, fun b hb => ?_⟩)⟩
  rw [take_dgs] at hb
  exact mem_while hb
theorem can_neg {l : List UInt8} {a : Nat} (h0 : bt l a = 95) (h : 49 ≤ bt l (a + 1) ∧ bt l (a + 1) ≤ 57) : a + 1 < l.length ∧ Can (pce l a (a + 2 + dgs l (a + 2))) := by
  obtain ⟨u, eu, ecu, _⟩ := bt_lt (l := l) (i := a) (by omega)
  obtain ⟨c, e, ec, hlt⟩ := bt_lt (l := l) (i := a + 1) (by omega)
  have hu : u = 95 := byte_eq (n := 95) (by omega)
  subst hu
  refine ⟨hlt, .inr (.inr ⟨c, (l.drop (a + 2)).take (dgs l (a + 2)), ?_, by omega, by omega, fun b hb => ?_⟩)⟩
  · rw [show a + 2 + dgs l (a + 2) = a + 1 + (dgs l (a + 2) + 1) by omega, pce_cons eu]
    have hi := List.getElem?_eq_some_iff.1 e
    rw [List.drop_eq_getElem_cons hi.1, List.take_succ_cons, hi.2]
  · rw [take_dgs] at hb
    exact mem_while hb
theorem can_zero {l : List UInt8} {a : Nat} (h0 : bt l a = 48) : a < l.length ∧ Can (pce l a (a + 1)) := by
  obtain ⟨u, eu, ecu, hlt⟩ := bt_lt (l := l) (i := a) (by omega)
  have hu : u = 48 := byte_eq (n := 48) (by omega)
  subst hu
  refine ⟨hlt, .inl ?_⟩
  have := pce_cons (k := 0) eu
  rw [Nat.add_zero] at this
  rw [this]; rfl
theorem scn_good (l : List UInt8) : ∀ f at' D L N, at' ≤ l.length → Wds D L N → 32 :: l.take at' = spW D L N ++ [32] → Good l (scn l f at' D L N) := by
  intro f
  induction f with
  | zero => intro at' D L N _ _ _; exact ⟨Nat.zero_le _, by decide, by decide⟩
  | succ f ih =>
    intro at' D L N ha hw h
    rw [scn]
    split
    · rename_i h95
      split
      · rename_i h2
        obtain ⟨c1, c2⟩ := can_neg h95 h2
        exact nmb_good ih (by omega) (dgs_le l (at' + 2) (by omega)) hw h c2
      · obtain ⟨_, _, _, hlt⟩ := bt_lt (l := l) (i := at') (by omega)
        exact ⟨hlt, by decide, by decide⟩
    · split
      · rename_i h48
        obtain ⟨c1, c2⟩ := can_zero h48
        exact nmb_good ih (by omega) (by omega) hw h c2
      · split
        · rename_i h2
          obtain ⟨c1, c2⟩ := can_pos h2
          exact nmb_good ih (by omega) (dgs_le l (at' + 1) (by omega)) hw h c2
        · split
          · rename_i h36
            obtain ⟨h36, rfl⟩ := h36
            obtain ⟨b, e, eb, hlt⟩ := bt_lt (l := l) (i := at') (by omega)
            have hb : b = 36 := byte_eq (n := 36) (by omega)
            subst hb
            have hs : spW (-1) L N = sp N := if_pos rfl
            rw [hs] at h
            have hlen : (at' : Int) = (sp N).length := by
              have := congrArg List.length h
              simp only [List.length_cons, List.length_append, List.length_take, List.length_nil] at this
              omega
            refine bhd_good ih (by omega) ⟨fun hx => by omega, fun _ => hlen, hw.nN, fun n hn => by simp at hn⟩ ?_
            rw [List.take_add_one, e, ← List.cons_append, h]
            unfold spW
            rw [if_neg (by omega)]
            simp [sp]
          · exact ⟨ha, by decide, by decide⟩
theorem scn_start (l : List UInt8) (f : Nat) : Good l (scn l f 0 (-1) [] []) :=
  scn_good l f 0 (-1) [] [] (Nat.zero_le _) ⟨fun _ => rfl, fun h => absurd rfl h, fun n hn => by simp at hn, fun n hn => by simp at hn⟩ (by simp [spW, sp])

/-! ### what is written is read -/

theorem drop_get {l t : List UInt8} {i : Nat} {b : UInt8} (h : l.drop i = b :: t) : l[i]? = some b ∧ l.drop (i + 1) = t := by
  constructor
  · have : (l.drop i)[0]? = some b := by rw [h]; rfl
    rwa [List.getElem?_drop, Nat.add_zero] at this
  · have := congrArg (List.drop 1) h
    rwa [List.drop_drop] at this
theorem while_app {r t : List UInt8} (hr : ∀ b ∈ r, isD b = true) (ht : t = [] ∨ ∃ t', t = 32 :: t') : (r ++ t).takeWhile isD = r := by
  induction r with
  | nil =>
    rcases ht with rfl | ⟨t', rfl⟩
    · rfl
    · rfl
  | cons c r ih => rw [List.cons_append, List.takeWhile_cons, if_pos (hr c (by simp)), ih fun b hb => hr b (by simp [hb])]
theorem scn_num {l t : List UInt8} {n : Int} {at' f : Nat} {D : Int} {L N : List Int} (hd : l.drop at' = wrt n ++ t) (ht : t = [] ∨ ∃ t', t = 32 :: t') (h0 : -9223372036854775808 ≤ n) (h1 : n ≤ 9223372036854775807) :
    scn l (f + 1) at' D L N = bhd l (scn l f) (at' + (wrt n).length) D L (N ++ [n]) := by
  have hr := read_wr n h0 h1
  have fin : ∀ upto, upto = at' + (wrt n).length → nmb l (scn l f) at' upto D L N = bhd l (scn l f) (at' + (wrt n).length) D L (N ++ [n]) := by
    rintro upto rfl
    have hp : pce l at' (at' + (wrt n).length) = wrt n := by
      unfold pce
      rw [hd, show at' + (wrt n).length - at' = (wrt n).length by omega, List.take_left']; rfl
    unfold nmb
    rw [hp, hr]
  rcases can_wr n with e | ⟨c, r, e, c1, c2, hd2⟩ | ⟨c, r, e, c1, c2, hd2⟩
  · rw [e] at hd
    obtain ⟨g, _⟩ := drop_get hd
    have hb : bt l at' = 48 := bt_some g
    rw [scn, if_neg (by omega), if_pos hb]
    exact fin _ (by rw [e]; rfl)
  · rw [e, List.cons_append] at hd
    obtain ⟨g, g2⟩ := drop_get hd
    have hb : bt l at' = c.toNat := bt_some g
    have hg : dgs l (at' + 1) = r.length := by unfold dgs; rw [g2, while_app hd2 ht]
    rw [scn, if_neg (by omega), if_neg (by omega), if_pos (by omega)]
    exact fin _ (by rw [e, hg, List.length_cons]; omega)
  · rw [e, List.cons_append, List.cons_append] at hd
    obtain ⟨g, g2⟩ := drop_get hd
    obtain ⟨g3, g4⟩ := drop_get g2
    have hb : bt l at' = 95 := bt_some g
    have hb2 : bt l (at' + 1) = c.toNat := bt_some g3
    have hg : dgs l (at' + 2) = r.length := by unfold dgs; rw [show at' + 2 = at' + 1 + 1 from rfl, g4, while_app hd2 ht]
    rw [scn, if_pos hb, if_pos (by omega)]
    exact fin _ (by rw [e, hg, List.length_cons, List.length_cons]; omega)
theorem bhd_blank {l t : List UInt8} {k : Nat → Int → List Int → List Int → Rr} {at' : Nat} {D : Int} {L N : List Int} (hd : l.drop at' = 32 :: t) : bhd l k at' D L N = k (at' + 1) D L N := by
  unfold bhd
  rw [if_pos (show bt l at' = 32 from bt_some (drop_get hd).1)]
theorem bhd_end {l : List UInt8} {k : Nat → Int → List Int → List Int → Rr} {at' : Nat} {D : Int} {L N : List Int} (hd : l.drop at' = []) : bhd l k at' D L N = Rr.ok D L N := by
  unfold bhd
  have := bt_none (List.drop_eq_nil_iff.1 hd)
  rw [if_neg (by omega), if_pos this]
theorem scn_nums {l : List UInt8} {D : Int} {L : List Int} {t : List UInt8} (ht : t = [] ∨ ∃ t', t = 32 :: t') : ∀ (rest : List Int) (at' f : Nat) (N : List Int), rest ≠ [] → In64 rest → rest.length ≤ f → l.drop at' = inL rest ++ t →
    scn l f at' D L N = bhd l (scn l (f - rest.length)) (at' + (inL rest).length) D L (N ++ rest)
  | [], _, _, _, h, _, _, _ => absurd rfl h
  | [n], at', f, N, _, h64, hf, hd => by
    obtain ⟨f, rfl⟩ : ∃ g, f = g + 1 := ⟨f - 1, by simp at hf; omega⟩
    have e : inL [n] = wrt n := by rw [inL_cons, sp_nil, List.append_nil]
    rw [e] at hd ⊢
    exact scn_num hd ht (h64 n (by simp)).1 (h64 n (by simp)).2
  | n :: m :: r, at', f, N, _, h64, hf, hd => by
    obtain ⟨f, rfl⟩ : ∃ g, f = g + 1 := ⟨f - 1, by simp at hf; omega⟩
    have e : inL (n :: m :: r) = wrt n ++ 32 :: inL (m :: r) := by rw [inL_cons, sp_cons, ← inL_cons]
    rw [e, List.append_assoc, List.cons_append] at hd
    rw [scn_num hd (.inr ⟨_, rfl⟩) (h64 n (by simp)).1 (h64 n (by simp)).2]
    have hd2 : l.drop (at' + (wrt n).length) = 32 :: (inL (m :: r) ++ t) := by
      rw [← List.drop_drop, hd, List.drop_left']; rfl
    rw [bhd_blank hd2]
    have hd3 := (drop_get hd2).2
    rw [scn_nums ht (m :: r) _ f (N ++ [n]) (by simp) (fun x hx => h64 x (by simp at hx ⊢; exact .inr hx)) (by simp at hf ⊢; omega) hd3, e]
    have e1 : at' + (wrt n).length + 1 + (inL (m :: r)).length = at' + (wrt n ++ 32 :: inL (m :: r)).length := by simp; omega
    have e2 : f - (m :: r).length = f + 1 - (n :: m :: r).length := by simp
    rw [e1, e2, List.append_assoc]; rfl
theorem len_inL (ns : List Int) : ns.length ≤ (inL ns).length := by
  have h : ∀ ns : List Int, 2 * ns.length ≤ (sp ns).length := by
    intro ns
    induction ns with
    | nil => simp
    | cons n r ih =>
      rw [sp_cons]
      have : 1 ≤ (wrt n).length := by
        rcases can_wr n with e | ⟨c, r, e, _⟩ | ⟨c, r, e, _⟩ <;> rw [e] <;> simp
      simp only [List.length_cons, List.length_append]; omega
  have := h ns
  unfold inL
  rw [List.length_drop]
  cases ns with
  | nil => simp
  | cons n r => simp only [List.length_cons] at *; omega

/-! ### whole texts -/

abbrev bareB (S A : List Int) : Prop := S.length = 0 ∨ (S.length = 1 ∧ 1 < A.length)
/-- What Flat writes. -/
def fl (S A : List Int) : List UInt8 := if bareB S A then inL A else inL S ++ 32 :: 36 :: sp A
theorem scn_fl {S A : List Int} (hS : In64 S) (hA : In64 A) (hne : bareB S A → A ≠ []) :
    scn (fl S A) ((fl S A).length + 1) 0 (-1) [] [] = if bareB S A then Rr.ok (-1) [] A else Rr.ok ((sp S).length) S A := by
  unfold fl
  by_cases hb : bareB S A
  · rw [if_pos hb, if_pos hb]
    have := len_inL A
    rw [scn_nums (.inl rfl) A 0 _ [] (hne hb) hA (by omega) (by simp), bhd_end (by simp)]; rfl
  · rw [if_neg hb, if_neg hb]
    have hSn : S ≠ [] := fun e => hb (.inl (by rw [e]; rfl))
    obtain ⟨l, hl⟩ : ∃ l, l = inL S ++ 32 :: 36 :: sp A := ⟨_, rfl⟩
    rw [← hl]
    have h1 := len_inL S
    have hlen : l.length = (inL S).length + 2 + (sp A).length := by rw [hl]; simp; omega
    have hd1 : l.drop (inL S).length = 32 :: 36 :: sp A := by rw [hl, List.drop_left']; rfl
    have hd2 := (drop_get hd1).2
    have hd3 := (drop_get hd2).2
    have h36 : bt l ((inL S).length + 1) = 36 := bt_some (drop_get hd2).1
    obtain ⟨f, hf⟩ : ∃ f, l.length + 1 - S.length = f + 1 := ⟨l.length - S.length, by omega⟩
    rw [scn_nums (t := 32 :: 36 :: sp A) (.inr ⟨_, rfl⟩) S 0 _ [] hSn hS (by omega) (by rw [List.drop_zero, hl]), hf, Nat.zero_add, bhd_blank hd1, scn, if_neg (by omega), if_neg (by omega), if_neg (by omega), if_pos ⟨h36, rfl⟩]
    have eD : (((inL S).length + 1 : Nat) : Int) = (sp S).length := by
      rw [← blank_inL hSn, List.length_cons]
    rw [eD]
    cases A with
    | nil => rw [bhd_end (by rw [hd3]; rfl)]; rfl
    | cons a r =>
      rw [sp_cons, ← inL_cons] at hd3
      have h2 := len_inL (a :: r)
      have hl2 : (sp (a :: r)).length = (inL (a :: r)).length + 1 := by rw [← blank_inL (by simp), List.length_cons]
      rw [bhd_blank hd3, scn_nums (.inl rfl) (a :: r) _ f [] (by simp) hA (by omega) (by rw [(drop_get hd3).2, List.append_nil]), bhd_end ?_]
      · rfl
      · rw [List.drop_eq_nil_iff]; omega
end Go.Proofs.YtppcfpiihkaopaaGreatDoor
