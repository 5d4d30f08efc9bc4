
/- Contract of words: a reader's states by goto. -/

import Derived.Test.YtppcfpiihkaopaaGreatDoorVH

import Derived.WalkMore

import Derived.ScopeJumps

namespace Go.Proofs.YtppcfpiihkaopaaGreatDoor

open Go.RowKit

set_option linter.unusedVariables false

/-- As Q; by a goto: J, and less. -/
def jmp (J : Nat → Act → World → Prop) (μ : Nat → Act → World → Nat) (m : Nat) (Q : Exit → Act → World → Prop) : Exit → Act → World → Prop
  | .goto l, a, w => J l a w ∧ μ l a w < m
  | e, a, w => Q e a w
theorem skip_wp {P : Program} {c : Code} {Q : Exit → Act → World → Prop} {a : Act} {w : World} (h : c.wp P Q a w) : (Code.seq .skip c).wp P Q a w := wp_seq (wp_skip h)
/-- A scope whose runs jump among five labels, each of which falls into the next one. -/
theorem wp_scope_five {P : Program} {a : Act} {w : World} {Q : Exit → Act → World → Prop} {c r0 r1 r2 r3 r4 : Code} (J : Nat → Act → World → Prop) (μ : Nat → Act → World → Nat) (m0 : Nat)
    (h0 : findLabel c 0 = some (.seq .skip r0)) (h1 : findLabel c 1 = some (.seq .skip r1)) (h2 : findLabel c 2 = some (.seq .skip r2)) (h3 : findLabel c 3 = some (.seq .skip r3)) (h4 : findLabel c 4 = some (.seq .skip r4)) (hJ : ∀ l a w, J l a w → l ≤ 4)
    (p4 : ∀ m a w, J 4 a w → μ 4 a w ≤ m → r4.wp P (jmp J μ m Q) a w)
    (p2 : (∀ m a w, J 4 a w → μ 4 a w ≤ m → r4.wp P (jmp J μ m Q) a w) → ∀ m a w, J 2 a w → μ 2 a w ≤ m → r2.wp P (jmp J μ m Q) a w)
    (p3 : (∀ m a w, J 2 a w → μ 2 a w ≤ m → r2.wp P (jmp J μ m Q) a w) → ∀ m a w, J 3 a w → μ 3 a w ≤ m → r3.wp P (jmp J μ m Q) a w)
    (p1 : (∀ m a w, J 3 a w → μ 3 a w ≤ m → r3.wp P (jmp J μ m Q) a w) → ∀ m a w, J 1 a w → μ 1 a w ≤ m → r1.wp P (jmp J μ m Q) a w)
    (p0 : ∀ m a w, J 0 a w → μ 0 a w ≤ m → r0.wp P (jmp J μ m Q) a w)
    (first : (∀ m a w, J 0 a w → μ 0 a w ≤ m → r0.wp P (jmp J μ m Q) a w) → c.wp P (jmp J μ m0 Q) a w) : (Code.scope c).wp P Q a w := by
  have q4 := p4
  have q2 := p2 q4
  have q3 := p3 q2
  have q1 := p1 q3
  have pass : ∀ l a w, J l a w → ∃ r, findLabel c l = some r ∧ r.wp P (jmp J μ (μ l a w) Q) a w := by
    intro l a w hj
    have hl := hJ l a w hj
    match l, hl with
    | 0, _ => exact ⟨_, h0, skip_wp <| p0 _ a w hj (Nat.le_refl _)⟩
    | 1, _ => exact ⟨_, h1, skip_wp <| q1 _ a w hj (Nat.le_refl _)⟩
    | 2, _ => exact ⟨_, h2, skip_wp <| q2 _ a w hj (Nat.le_refl _)⟩
    | 3, _ => exact ⟨_, h3, skip_wp <| q3 _ a w hj (Nat.le_refl _)⟩
    | 4, _ => exact ⟨_, h4, skip_wp <| q4 _ a w hj (Nat.le_refl _)⟩
    | n + 5, h => omega
  intro b k cs
  have key : ∀ n l a w, μ l a w = n → J l a w → ∃ rest, findLabel c l = some rest ∧ ∃ e a' w', Q e a' w' ∧ Arrives P (lone (b.at a (.code rest :: .inScope c :: k)) cs w) b k cs e a' w' := by
    intro n
    induction n using Nat.strongRecOn with
    | _ n ih =>
      intro l a w hn hj
      obtain ⟨rest, hf, hp⟩ := pass l a w hj
      refine ⟨rest, hf, ?_⟩
      obtain ⟨e, a₁, w₁, hq, harr⟩ := hp b (.inScope c :: k) cs
      cases e with
      | normal => exact ⟨.normal, a₁, w₁, hq, Steps.trans harr (.one step_inScope)⟩
      | exit id => exact ⟨.exit id, a₁, w₁, hq, fun k' hk => harr k' (by simp [exitTo, hk])⟩
      | goto l' =>
        obtain ⟨hJ', hlt⟩ := hq
        obtain ⟨rest', hf', e₂, a₂, w₂, hq₂, harr₂⟩ := ih _ (by omega) l' a₁ w₁ rfl hJ'
        have hg : gotoIn l' (.inScope c :: k) = some (.code rest' :: .inScope c :: k) := by simp [gotoIn, hf']
        exact ⟨e₂, a₂, w₂, hq₂, .of_steps (harr _ hg) harr₂⟩
      | ret => exact ⟨_, a₁, w₁, hq, harr⟩
      | panic ch => exact ⟨_, a₁, w₁, hq, harr⟩
      | outgrown => exact ⟨_, a₁, w₁, hq, harr⟩
  obtain ⟨e, a₁, w₁, hq, harr⟩ := first p0 b (.inScope c :: k) cs
  cases e with
  | normal => exact ⟨.normal, a₁, w₁, hq, .head step_scope (Steps.trans harr (.one step_inScope))⟩
  | exit id => exact ⟨.exit id, a₁, w₁, hq, fun k' hk => .head step_scope (harr k' (by simp [exitTo, hk]))⟩
  | goto l' =>
    obtain ⟨hJ', _⟩ := hq
    obtain ⟨rest', hf', e₂, a₂, w₂, hq₂, harr₂⟩ := key _ l' a₁ w₁ rfl hJ'
    have hg : gotoIn l' (.inScope c :: k) = some (.code rest' :: .inScope c :: k) := by simp [gotoIn, hf']
    exact ⟨e₂, a₂, w₂, hq₂, .of_steps (.head step_scope (harr _ hg)) harr₂⟩
  | ret => exact ⟨_, a₁, w₁, hq, .of_steps (.one step_scope) harr⟩
  | panic ch => exact ⟨_, a₁, w₁, hq, .of_steps (.one step_scope) harr⟩
  | outgrown => exact ⟨_, a₁, w₁, hq, .of_steps (.one step_scope) harr⟩

/-- The frame of words: its argument, and whatever lies in its slots. -/
def wfr (g : Nat) (us : Nat → Value) : Act := { tmps := #[.pointer (some ⟨g, 0, none⟩), us 1, us 2, us 3, us 4, us 5, us 6, us 7, us 8, us 9, us 10, us 11, us 12, us 13, us 14, us 15, us 16, us 17, us 18, us 19, us 20, us 21, us 22, us 23, us 24, us 25, us 26, us 27, us 28, us 29, us 30, us 31, us 32, us 33, us 34, us 35, us 36, us 37, us 38, us 39, us 40, us 41, us 42, us 43, us 44, us 45, us 46, us 47, us 48, us 49, us 50, us 51, us 52, us 53, us 54, us 55, us 56, us 57, us 58, us 59, us 60, us 61, us 62, us 63, us 64, us 65, us 66, us 67, us 68, us 69, us 70, us 71, us 72, us 73, us 74, us 75, us 76, us 77, us 78, us 79, us 80, us 81, us 82, us 83, us 84, us 85, us 86, us 87, us 88, us 89, us 90, us 91, us 92, us 93, us 94, us 95, us 96, us 97, us 98, us 99, us 100, us 101, us 102, us 103, us 104, us 105, us 106, us 107, us 108, us 109, us 110, us 111, us 112, us 113, us 114, us 115, us 116], defers := [] }
/-- Where the reader stands. -/
def atOf (g : Nat) (W : World) : Nat := match W.heap[g]? with | some (.cells cs _ _) => (intOf (cs.getD 1 undef)).toNat | _ => 0
theorem atOf_rdr {W : World} {B g : Nat} {s : List UInt8} {a f : Nat} {d : Int} {lo : Option Addr} {ln lc : Nat} {L : List Int} {no : Option Addr} {nn nc : Nat} {N : List Int} (h : Rdr W B g s a f d lo ln lc L no nn nc N) : atOf g W = a := by
  unfold atOf
  rw [h.row]
  show ((a : Int)).toNat = a
  simp
/-- What each label knows. -/
def wSt (s : List UInt8) (R : Rr) (l at' f fu : Nat) (d : Int) (L N : List Int) : Prop :=
  match l with
  | 0 => s.length + 1 ≤ at' + fu ∧ scn s fu at' d L N = R ∧ L.length + N.length ≤ at'
  | 1 => s.length ≤ at' + fu ∧ f = at' ∧ at' < s.length ∧ (if 49 ≤ bt s (at' + 1) ∧ bt s (at' + 1) ≤ 57 then nmb s (scn s fu) at' (at' + 2 + dgs s (at' + 2)) d L N else Rr.bad (at' + 1) 37) = R ∧ bt s at' = 95 ∧ L.length + N.length ≤ f
  | 2 => s.length ≤ f + fu ∧ f < at' ∧ nmb s (scn s fu) f at' d L N = R ∧ Can (pce s f at') ∧ L.length + N.length ≤ f
  | 3 => s.length ≤ f + fu ∧ f ≤ at' ∧ at' < s.length ∧ nmb s (scn s fu) f (at' + 1 + dgs s (at' + 1)) d L N = R ∧ Can (pce s f (at' + 1 + dgs s (at' + 1))) ∧ L.length + N.length ≤ f
  | 4 => s.length ≤ at' + fu ∧ bhd s (scn s fu) at' d L N = R ∧ L.length + N.length ≤ at'
  | _ => False
def wJ (w0 : World) (g : Nat) (s : List UInt8) (R : Rr) (l : Nat) (a : Act) (W : World) : Prop :=
  a = wfr g (fun n => a.tmps.getD n undef) ∧ Below w0.heap.size w0 W ∧ ∃ at' f fu d lo ln lc L no nn nc N, Rdr W w0.heap.size g s at' f d lo ln lc L no nn nc N ∧ at' ≤ s.length ∧ Hid (d = -1 → L = []) ∧ wSt s R l at' f fu d L N
def wRank (l : Nat) : Nat := match l with | 0 => 3 | 1 => 2 | 3 => 1 | _ => 0
def wMu (g : Nat) (s : List UInt8) (l : Nat) (a : Act) (W : World) : Nat := 4 * (s.length - atOf g W) + wRank l
/-- What words answers. -/
def wPost (w0 : World) (g : Nat) (s : List UInt8) (R : Rr) (e : Ending) (W : World) : Prop :=
  Below w0.heap.size w0 W ∧ match R with
  | .inl (p, er) => e = .returned (.tuple #[.int .i64 (p : Int), .int .i64 er])
  | .inr (D, L, N) => e = .returned (.tuple #[.int .i64 0, .int .i64 0]) ∧ ∃ at' f lo ln lc no nn nc, Rdr W w0.heap.size g s at' f D lo ln lc L no nn nc N

set_option linter.unusedSimpArgs false in
set_option maxHeartbeats 8000000 in
set_option maxRecDepth 20000 in
theorem words_any (w0 : World) (g : Nat) (s : List UInt8) (R : Rr) (fu : Nat) (W : World) (T : Tb w0) (hg : w0.heap.size ≤ g) (hs : s.length ≤ 1048576) (hb : Below w0.heap.size w0 W) (f : Nat) (lo : Option Addr) (ln lc : Nat) (no : Option Addr) (nn nc : Nat)
    (hR : Rdr W w0.heap.size g s 0 f (-1) lo ln lc [] no nn nc []) (hfu : s.length + 1 ≤ fu) (hsc : scn s fu 0 (-1) [] [] = R) :
    Calls Tryz.prog 23 #[.pointer (some ⟨g, 0, none⟩)] W fun e W' => wPost w0 g s R e W' := by
  go_enter Tryz.func23, Tryz.ntmps23
  go_wp2
  refine wp_scope_five (wJ w0 g s R) (wMu g s) (4 * s.length + 4) rfl rfl rfl rfl rfl ?hJ ?p4 ?p2 ?p3 ?p1 ?p0 ?first
  case hJ =>
    rintro l a W' ⟨_, _, at', f, fu, d, lo, ln, lc, L, no, nn, nc, N, _, _, _, h⟩
    unfold wSt at h
    split at h <;> first | omega | exact h.elim
  case first =>
    intro p0
    go_wp2
    go_step3
    rename_i hK
    refine hK _ _ (p0 _ _ _ ?j ?m)
    case j => exact ⟨rfl, hb, 0, f, fu, -1, lo, ln, lc, [], no, nn, nc, [], hR, Nat.zero_le _, fun _ => rfl, by omega, hsc, by simp⟩
    case m =>
      unfold wMu
      rw [atOf_rdr hR]
      simp [wRank]
  case p4 =>
    rintro m a V ⟨ha, hbV, at', f, fu, d, lo, ln, lc, L, no, nn, nc, N, hV, hat, hdl, h1, h2, h3⟩ hm
    unfold wMu at hm
    rw [atOf_rdr hV, show wRank 4 = 0 from rfl] at hm
    generalize (fun n => a.tmps.getD n undef) = us at ha
    subst ha
    unfold wfr
    have HLL : Hid (L.length = ln) := hV.fl.rd.len
    have HNN : Hid (N.length = nn) := hV.fn.rd.len
    have hgV := (Array.getElem?_eq_some_iff.1 hV.row).1
    clear hsc hR hfu hb
    have hS := hV
    have hbS := hbV
    have cL := look_any V _ g s at' f d lo ln lc L no nn nc N hV hat hs
    by_cases e1 : bt s at' = 32
    · have HS : Hid (scn s fu (at' + 1) d L N = R) := by have := h2; unfold bhd at this; rw [if_pos e1] at this; exact this
      obtain ⟨_, _, _, hlt⟩ := bt_lt (l := s) (i := at') (by omega)
      rw [e1] at cL
      clear e1 h2
      go_wp2_with (go_at_call 44; (with_reducible refine cL.mono ?_); rintro e V1 ⟨rfl, q, hq⟩; have R1 := hS.drew q; rw [← hq] at R1; have B1 := hbS.trans ((drewN_belowS _ q).mono hbS.size); rw [← hq] at B1; clear hq; obtain ⟨x0, x1, x2, x3, x4, x5, xz⟩ := box6 R1.row; have xz1 := xz 1)
      have R2 := R1.setA (at' + 1)
      have B2 : Below w0.heap.size w0 _ := B1.setCell (p := ⟨g, 1, none⟩) hg (.int .i64 ((at' + 1 : Nat) : Int))
      go_step3
      simp only [Exit.inBlock, Exit.then, jmp]
      refine ⟨⟨rfl, B2, at' + 1, f, fu, d, lo, ln, lc, L, no, nn, nc, N, R2, hlt, hdl, by omega, HS.out, by omega⟩, ?_⟩
      have em : atOf g (V1.setCell ⟨g, 1, none⟩ (.int .i64 ((at' : Int) + 1))) = at' + 1 := atOf_rdr R2
      unfold wMu; rw [em, show wRank 0 = 3 from rfl]; omega
    · have t1 : (bt s at' == 32) = false := by simpa using e1
      by_cases e2 : bt s at' = -1
      · have HS : Hid (R = Rr.ok d L N) := by have := h2; unfold bhd at this; rw [if_neg e1, if_pos e2] at this; exact this.symm
        rw [e2] at cL
        clear e1 e2 h2 t1
        go_wp2_with (go_at_call 44; (with_reducible refine cL.mono ?_); rintro e V1 ⟨rfl, q, hq⟩; have R1 := hS.drew q; rw [← hq] at R1; have B1 := hbS.trans ((drewN_belowS _ q).mono hbS.size); rw [← hq] at B1; clear hq; obtain ⟨x0, x1, x2, x3, x4, x5, xz⟩ := box6 R1.row; have xz1 := xz 1)
        simp only [Exit.inBlock, Exit.then, jmp]
        go_ret2
        refine ⟨B1, ?_⟩
        rw [HS.out]
        exact ⟨rfl, at', f, lo, ln, lc, no, nn, nc, R1⟩
      · have t2 : (bt s at' == -1) = false := by simpa using e2
        have HS : Hid (R = Rr.bad at' 37) := by have := h2; unfold bhd at this; rw [if_neg e1, if_neg e2] at this; exact this.symm
        generalize bt s at' = bv at cL t1 t2
        clear e1 e2 h2
        go_wp2_with (go_at_call 44; (with_reducible refine cL.mono ?_); rintro e V1 ⟨rfl, q, hq⟩; have R1 := hS.drew q; rw [← hq] at R1; have B1 := hbS.trans ((drewN_belowS _ q).mono hbS.size); rw [← hq] at B1; clear hq; obtain ⟨x0, x1, x2, x3, x4, x5, xz⟩ := box6 R1.row; have xz1 := xz 1)
        simp only [Exit.inBlock, Exit.then, jmp]
        go_ret2
        refine ⟨B1, ?_⟩
        rw [HS.out]
        rfl
  case p2 =>
    intro p4
    have Hp4 : Hid _ := p4
    clear p4
    rintro m a V ⟨ha, hbV, at', f, fu, d, lo, ln, lc, L, no, nn, nc, N, hV, hat, hdl, h1, h2, h3, h4, h5⟩ hm
    unfold wMu at hm
    rw [atOf_rdr hV, show wRank 2 = 0 from rfl] at hm
    generalize (fun n => a.tmps.getD n undef) = us at ha
    subst ha
    unfold wfr
    have HLL : Hid (L.length = ln) := hV.fl.rd.len
    have HNN : Hid (N.length = nn) := hV.fn.rd.len
    have hgV := (Array.getElem?_eq_some_iff.1 hV.row).1
    clear hsc hR hfu hb
    obtain ⟨c, r, hcr⟩ : ∃ c r, pce s f at' = c :: r := by
      rcases h4 with e | ⟨c, r, e, _⟩ | ⟨c, r, e, _⟩
      · exact ⟨_, _, e⟩
      · exact ⟨_, _, e⟩
      · exact ⟨_, _, e⟩
    rcases read_can h4 with ⟨v, hv⟩ | hv
    · have HS : Hid (bhd s (scn s fu) at' d L (N ++ [v]) = R) := by have := h3; unfold nmb at this; rw [hv] at this; exact this
      rw [hcr] at hv
      have cT := take_ok V _ g s at' f d lo ln lc L no nn nc N hV hat hs (by omega) (T.below hbV) c r hcr v hv (by have := HLL.out; have := HNN.out; omega) hg hbV.size
      clear hcr hv h4 h3
      go_wp2_with (go_at_call 46; (with_reducible refine cT.mono ?_); rintro e V1 ⟨rfl, co, cc, R1, b1⟩; have B1 := hbV.trans b1)
      go_step3
      rename_i hK
      refine hK _ _ (Hp4.out _ _ _ ?j ?m)
      case j => exact ⟨rfl, B1, at', f, fu, d, lo, ln, lc, L, co, nn + 1, cc, N ++ [v], R1, hat, hdl, by omega, HS.out, by rw [List.length_append, List.length_singleton]; omega⟩
      case m => unfold wMu; rw [atOf_rdr R1, show wRank 4 = 0 from rfl]; omega
    · have HS : Hid (R = Rr.bad f 30) := by have := h3; unfold nmb at this; rw [hv] at this; exact this.symm
      rw [hcr] at hv
      have cT := take_no V _ g s at' f d lo ln lc L no nn nc N hV hat hs (by omega) (T.below hbV) c r hcr hv
      clear hcr hv h4 h3
      go_wp2_with (go_at_call 46; (with_reducible refine cT.mono ?_); rintro e V1 ⟨rfl, b1⟩; have R1 := hV.below b1; have B1 := hbV.trans (b1.mono hbV.size); obtain ⟨x0, x1, x2, x3, x4, x5, xz⟩ := box6 R1.row)
      simp only [Exit.inBlock, Exit.then, jmp]
      go_ret2
      refine ⟨B1, ?_⟩
      rw [HS.out]
      rfl
  case p3 =>
    intro p2
    have Hp2 : Hid _ := p2
    clear p2
    rintro m a V ⟨ha, hbV, at', f, fu, d, lo, ln, lc, L, no, nn, nc, N, hV, hat, hdl, h1, h2, h3, h4, h5, h6⟩ hm
    unfold wMu at hm
    rw [atOf_rdr hV, show wRank 3 = 1 from rfl] at hm
    generalize (fun n => a.tmps.getD n undef) = us at ha
    subst ha
    unfold wfr
    have HLL : Hid (L.length = ln) := hV.fl.rd.len
    have HNN : Hid (N.length = nn) := hV.fn.rd.len
    have hgV := (Array.getElem?_eq_some_iff.1 hV.row).1
    clear hsc hR hfu hb
    obtain ⟨y0, y1, y2, y3, y4, y5, yz⟩ := box6 hV.row
    have yz1 := yz 1
    have hS : Rdr (V.setCell ⟨g, 1, none⟩ (.int .i64 ((at' : Int) + 1))) w0.heap.size g s (at' + 1) f d lo ln lc L no nn nc N := hV.setA (at' + 1)
    have hbS : Below w0.heap.size w0 (V.setCell ⟨g, 1, none⟩ (.int .i64 ((at' : Int) + 1))) := hbV.setCell (p := ⟨g, 1, none⟩) hg _
    have cL := look_any _ _ g s (at' + 1) f d lo ln lc L no nn nc N hS (by omega) hs
    by_cases e1 : 48 ≤ bt s (at' + 1) ∧ bt s (at' + 1) ≤ 57
    · have ed : at' + 1 + dgs s (at' + 1) = at' + 1 + 1 + dgs s (at' + 1 + 1) := by rw [dgs_some e1]; omega
      have HS : Hid (nmb s (scn s fu) f (at' + 1 + 1 + dgs s (at' + 1 + 1)) d L N = R) := by rw [ed] at h4; exact h4
      have HC : Hid (Can (pce s f (at' + 1 + 1 + dgs s (at' + 1 + 1)))) := by rw [ed] at h5; exact h5
      obtain ⟨_, _, _, hlt⟩ := bt_lt (l := s) (i := at' + 1) (by omega)
      obtain ⟨e1, e2⟩ := e1
      generalize bt s (at' + 1) = bv at cL e1 e2
      have t1 : decide (48 ≤ bv) = true := by simp [e1]
      have t2 : decide (bv ≤ 57) = true := by simp [e2]
      clear h4 h5 ed
      go_wp2_with (go_at_call 44; (with_reducible refine cL.mono ?_); rintro e V1 ⟨rfl, q, hq⟩; have R1 := hS.drew q; rw [← hq] at R1; have B1 := hbS.trans ((drewN_belowS _ q).mono hbS.size); rw [← hq] at B1; clear hq; obtain ⟨x0, x1, x2, x3, x4, x5, xz⟩ := box6 R1.row; have xz1 := xz 1)
      go_step3
      simp only [Exit.inBlock, Exit.then, jmp]
      refine ⟨⟨rfl, B1, at' + 1, f, fu, d, lo, ln, lc, L, no, nn, nc, N, R1, by omega, hdl, h1, by omega, hlt, HS.out, HC.out, h6⟩, ?_⟩
      unfold wMu; rw [atOf_rdr R1, show wRank 3 = 1 from rfl]; omega
    · have ed : at' + 1 + dgs s (at' + 1) = at' + 1 := by rw [dgs_none e1]
      have HS : Hid (nmb s (scn s fu) f (at' + 1) d L N = R) := by rw [ed] at h4; exact h4
      have HC : Hid (Can (pce s f (at' + 1))) := by rw [ed] at h5; exact h5
      generalize bt s (at' + 1) = bv at cL e1
      clear h4 h5 ed
      by_cases e2 : 48 ≤ bv
      · have t1 : decide (48 ≤ bv) = true := by simp [e2]
        have t2 : decide (bv ≤ 57) = false := by simp; omega
        have t3 : ¬ bv ≤ 57 := by omega
        clear e1
        go_wp2_with (go_at_call 44; (with_reducible refine cL.mono ?_); rintro e V1 ⟨rfl, q, hq⟩; have R1 := hS.drew q; rw [← hq] at R1; have B1 := hbS.trans ((drewN_belowS _ q).mono hbS.size); rw [← hq] at B1; clear hq; obtain ⟨x0, x1, x2, x3, x4, x5, xz⟩ := box6 R1.row; have xz1 := xz 1)
        go_step3
        rename_i hK
        refine hK _ _ (Hp2.out _ _ _ ?j ?m)
        case j => exact ⟨rfl, B1, at' + 1, f, fu, d, lo, ln, lc, L, no, nn, nc, N, R1, by omega, hdl, h1, by omega, HS.out, HC.out, h6⟩
        case m => unfold wMu; rw [atOf_rdr R1, show wRank 2 = 0 from rfl]; omega
      · have t1 : decide (48 ≤ bv) = false := by simp; omega
        clear e1
        go_wp2_with (go_at_call 44; (with_reducible refine cL.mono ?_); rintro e V1 ⟨rfl, q, hq⟩; have R1 := hS.drew q; rw [← hq] at R1; have B1 := hbS.trans ((drewN_belowS _ q).mono hbS.size); rw [← hq] at B1; clear hq; obtain ⟨x0, x1, x2, x3, x4, x5, xz⟩ := box6 R1.row; have xz1 := xz 1)
        go_step3
        rename_i hK
        refine hK _ _ (Hp2.out _ _ _ ?j ?m)
        case j => exact ⟨rfl, B1, at' + 1, f, fu, d, lo, ln, lc, L, no, nn, nc, N, R1, by omega, hdl, h1, by omega, HS.out, HC.out, h6⟩
        case m => unfold wMu; rw [atOf_rdr R1, show wRank 2 = 0 from rfl]; omega
  case p1 =>
    intro p3
    have Hp3 : Hid _ := p3
    clear p3
    rintro m a V ⟨ha, hbV, at', f, fu, d, lo, ln, lc, L, no, nn, nc, N, hV, hat, hdl, h1, h2, h3, h4, h5, h6⟩ hm
    unfold wMu at hm
    rw [atOf_rdr hV, show wRank 1 = 2 from rfl] at hm
    generalize (fun n => a.tmps.getD n undef) = us at ha
    subst ha
    unfold wfr
    have HLL : Hid (L.length = ln) := hV.fl.rd.len
    have HNN : Hid (N.length = nn) := hV.fn.rd.len
    have hgV := (Array.getElem?_eq_some_iff.1 hV.row).1
    clear hsc hR hfu hb
    obtain ⟨y0, y1, y2, y3, y4, y5, yz⟩ := box6 hV.row
    have yz1 := yz 1
    have hS : Rdr (V.setCell ⟨g, 1, none⟩ (.int .i64 ((at' : Int) + 1))) w0.heap.size g s (at' + 1) f d lo ln lc L no nn nc N := hV.setA (at' + 1)
    have hbS : Below w0.heap.size w0 (V.setCell ⟨g, 1, none⟩ (.int .i64 ((at' : Int) + 1))) := hbV.setCell (p := ⟨g, 1, none⟩) hg _
    have cL := look_any _ _ g s (at' + 1) f d lo ln lc L no nn nc N hS (by omega) hs
    by_cases e1 : 49 ≤ bt s (at' + 1) ∧ bt s (at' + 1) ≤ 57
    · have HS : Hid (nmb s (scn s fu) f (at' + 1 + 1 + dgs s (at' + 1 + 1)) d L N = R) := by have := h4; rw [if_pos e1] at this; rw [h2]; exact this
      have HC : Hid (Can (pce s f (at' + 1 + 1 + dgs s (at' + 1 + 1)))) := by rw [h2]; exact (can_neg h5 e1).2
      obtain ⟨_, _, _, hlt⟩ := bt_lt (l := s) (i := at' + 1) (by omega)
      obtain ⟨e1, e2⟩ := e1
      generalize bt s (at' + 1) = bv at cL e1 e2
      have t1 : decide (bv < 49) = false := by simp; omega
      have t2 : decide (57 < bv) = false := by simp; omega
      have t3 : ¬ bv < 49 := by omega
      have t4 : ¬ 57 < bv := by omega
      clear h4 h5
      go_wp2_with (go_at_call 44; (with_reducible refine cL.mono ?_); rintro e V1 ⟨rfl, q, hq⟩; have R1 := hS.drew q; rw [← hq] at R1; have B1 := hbS.trans ((drewN_belowS _ q).mono hbS.size); rw [← hq] at B1; clear hq; obtain ⟨x0, x1, x2, x3, x4, x5, xz⟩ := box6 R1.row; have xz1 := xz 1)
      go_step3
      rename_i hK
      refine hK _ _ (Hp3.out _ _ _ ?j ?m)
      case j => exact ⟨rfl, B1, at' + 1, f, fu, d, lo, ln, lc, L, no, nn, nc, N, R1, by omega, hdl, by omega, by omega, hlt, HS.out, HC.out, h6⟩
      case m => unfold wMu; rw [atOf_rdr R1, show wRank 3 = 1 from rfl]; omega
    · have HS : Hid (R = Rr.bad (at' + 1) 37) := by have := h4; rw [if_neg e1] at this; exact this.symm
      generalize bt s (at' + 1) = bv at cL e1
      clear h4 h5
      by_cases e2 : bv < 49
      · have t1 : decide (bv < 49) = true := by simp [e2]
        clear e1
        go_wp2_with (go_at_call 44; (with_reducible refine cL.mono ?_); rintro e V1 ⟨rfl, q, hq⟩; have R1 := hS.drew q; rw [← hq] at R1; have B1 := hbS.trans ((drewN_belowS _ q).mono hbS.size); rw [← hq] at B1; clear hq; obtain ⟨x0, x1, x2, x3, x4, x5, xz⟩ := box6 R1.row; have xz1 := xz 1)
        simp only [Exit.inBlock, Exit.then, jmp]
        go_ret2
        refine ⟨B1, ?_⟩
        rw [HS.out]
        rfl
      · have t1 : decide (bv < 49) = false := by simp; omega
        have t2 : decide (57 < bv) = true := by simp; omega
        have t3 : 57 < bv := by omega
        clear e1
        go_wp2_with (go_at_call 44; (with_reducible refine cL.mono ?_); rintro e V1 ⟨rfl, q, hq⟩; have R1 := hS.drew q; rw [← hq] at R1; have B1 := hbS.trans ((drewN_belowS _ q).mono hbS.size); rw [← hq] at B1; clear hq; obtain ⟨x0, x1, x2, x3, x4, x5, xz⟩ := box6 R1.row; have xz1 := xz 1)
        simp only [Exit.inBlock, Exit.then, jmp]
        go_ret2
        refine ⟨B1, ?_⟩
        rw [HS.out]
        rfl
  case p0 =>
    rintro m a V ⟨ha, hbV, at', f, fu, d, lo, ln, lc, L, no, nn, nc, N, hV, hat, hdl, h1, h2, h3⟩ hm
    unfold wMu at hm
    rw [atOf_rdr hV, show wRank 0 = 3 from rfl] at hm
    generalize (fun n => a.tmps.getD n undef) = us at ha
    subst ha
    unfold wfr
    have HLL : Hid (L.length = ln) := hV.fl.rd.len
    have HNN : Hid (N.length = nn) := hV.fn.rd.len
    clear hsc hR hfu hb
    obtain ⟨fu, rfl⟩ : ∃ k, fu = k + 1 := ⟨fu - 1, by omega⟩
    obtain ⟨y0, y1, y2, y3, y4, y5, yz⟩ := box6 hV.row
    have yz2 := yz 2
    have hS := hV.setF at'
    have hbS : Below w0.heap.size w0 (V.setCell ⟨g, 2, none⟩ (.int .i64 (at' : Int))) := hbV.setCell (p := ⟨g, 2, none⟩) hg _
    have cL := look_any _ _ g s at' at' d lo ln lc L no nn nc N hS hat hs
    rw [scn] at h2
    by_cases e1 : bt s at' = 95
    · rw [if_pos e1] at h2
      have HS : Hid _ := h2
      have HB : Hid (bt s at' = 95) := e1
      obtain ⟨_, _, _, hlt⟩ := bt_lt (l := s) (i := at') (by omega)
      rw [e1] at cL
      clear e1 h2
      go_wp2_with (go_at_call 44; (with_reducible refine cL.mono ?_); rintro e V1 ⟨rfl, q, hq⟩; have R1 := hS.drew q; rw [← hq] at R1; have B1 := hbS.trans ((drewN_belowS _ q).mono hbS.size); rw [← hq] at B1; clear hq; obtain ⟨x0, x1, x2, x3, x4, x5, xz⟩ := box6 R1.row; have xz1 := xz 1)
      go_step3
      simp only [Exit.inBlock, Exit.then, jmp]
      refine ⟨⟨rfl, B1, at', at', fu, d, lo, ln, lc, L, no, nn, nc, N, R1, hat, hdl, by omega, rfl, hlt, HS.out, HB.out, h3⟩, ?_⟩
      unfold wMu; rw [atOf_rdr R1, show wRank 1 = 2 from rfl]; omega
    · have t1 : (bt s at' == 95) = false := by simpa using e1
      rw [if_neg e1] at h2
      by_cases e2 : bt s at' = 48
      · rw [if_pos e2] at h2
        have HS : Hid _ := h2
        obtain ⟨hlt, hcan⟩ := can_zero e2
        have HC : Hid (Can (pce s at' (at' + 1))) := hcan
        rw [e2] at cL
        clear e1 e2 h2 t1 hcan
        go_wp2_with (go_at_call 44; (with_reducible refine cL.mono ?_); rintro e V1 ⟨rfl, q, hq⟩; have R1 := hS.drew q; rw [← hq] at R1; have B1 := hbS.trans ((drewN_belowS _ q).mono hbS.size); rw [← hq] at B1; clear hq; obtain ⟨x0, x1, x2, x3, x4, x5, xz⟩ := box6 R1.row; have xz1 := xz 1)
        have R2 : Rdr (V1.setCell ⟨g, 1, none⟩ (.int .i64 ((at' : Int) + 1))) w0.heap.size g s (at' + 1) at' d lo ln lc L no nn nc N := R1.setA (at' + 1)
        have B2 : Below w0.heap.size w0 (V1.setCell ⟨g, 1, none⟩ (.int .i64 ((at' : Int) + 1))) := B1.setCell (p := ⟨g, 1, none⟩) hg _
        go_step3
        simp only [Exit.inBlock, Exit.then, jmp]
        refine ⟨⟨rfl, B2, at' + 1, at', fu, d, lo, ln, lc, L, no, nn, nc, N, R2, hlt, hdl, by omega, by omega, HS.out, HC.out, h3⟩, ?_⟩
        unfold wMu; rw [atOf_rdr R2, show wRank 2 = 0 from rfl]; omega
      · have t2 : (bt s at' == 48) = false := by simpa using e2
        rw [if_neg e2] at h2
        by_cases e3 : 49 ≤ bt s at' ∧ bt s at' ≤ 57
        · rw [if_pos e3] at h2
          have HS : Hid _ := h2
          obtain ⟨hlt, hcan⟩ := can_pos e3
          have HC : Hid (Can (pce s at' (at' + 1 + dgs s (at' + 1)))) := hcan
          obtain ⟨e3, e4⟩ := e3
          clear e1 e2 h2 hcan
          generalize bt s at' = bv at cL t1 t2 e3 e4
          have t3 : decide (49 ≤ bv) = true := by simp [e3]
          have t4 : decide (bv ≤ 57) = true := by simp [e4]
          go_wp2_with (go_at_call 44; (with_reducible refine cL.mono ?_); rintro e V1 ⟨rfl, q, hq⟩; have R1 := hS.drew q; rw [← hq] at R1; have B1 := hbS.trans ((drewN_belowS _ q).mono hbS.size); rw [← hq] at B1; clear hq; obtain ⟨x0, x1, x2, x3, x4, x5, xz⟩ := box6 R1.row; have xz1 := xz 1)
          go_step3
          simp only [Exit.inBlock, Exit.then, jmp]
          refine ⟨⟨rfl, B1, at', at', fu, d, lo, ln, lc, L, no, nn, nc, N, R1, hat, hdl, by omega, Nat.le_refl _, hlt, HS.out, HC.out, h3⟩, ?_⟩
          unfold wMu; rw [atOf_rdr R1, show wRank 3 = 1 from rfl]; omega
        · rw [if_neg e3] at h2
          by_cases e5 : bt s at' = 36
          · have t5 : ((36 : Int) == 36) = true := rfl
            obtain ⟨_, _, _, hlt⟩ := bt_lt (l := s) (i := at') (by omega)
            rw [e5] at cL
            by_cases e6 : d = -1
            · rw [if_pos ⟨e5, e6⟩] at h2
              have HS : Hid _ := h2
              subst e6
              have HL0 : Hid (L = []) := hdl.out rfl
              clear e1 e2 e3 e5 h2 t1 t2 hdl
              go_wp2_with (first | (go_at_call 44; (with_reducible refine cL.mono ?_); rintro e V1 ⟨rfl, q, hq⟩; have R1 := hS.drew q; rw [← hq] at R1; have B1 := hbS.trans ((drewN_belowS _ q).mono hbS.size); rw [← hq] at B1; clear hq; obtain ⟨x0, x1, x2, x3, x4, x5, xz⟩ := box6 R1.row; have xz1 := xz 1) | (go_at_call 45; (with_reducible refine (turn_any V1 _ g s at' at' (-1) lo ln lc L no nn nc N R1 ?_ hg B1.size).mono ?_); (· have := HLL.out; have := HNN.out; omega); rintro e V2 ⟨⟨v, rfl⟩, co, cc, R2, b2⟩; have B2 := B1.trans b2; obtain ⟨z0, z1, z2, z3, z4, z5, zz⟩ := box6 R2.row; have zz1 := zz 1))
              have R3 : Rdr (V2.setCell ⟨g, 1, none⟩ (.int .i64 ((at' : Int) + 1))) w0.heap.size g s (at' + 1) at' (at' : Int) co (ln + nn) cc (L ++ N) none 0 0 [] := R2.setA (at' + 1)
              have B3 : Below w0.heap.size w0 (V2.setCell ⟨g, 1, none⟩ (.int .i64 ((at' : Int) + 1))) := B2.setCell (p := ⟨g, 1, none⟩) hg _
              go_step3
              simp only [Exit.inBlock, Exit.then, jmp]
              refine ⟨⟨rfl, B3, at' + 1, at', fu, (at' : Int), co, ln + nn, cc, L ++ N, none, 0, 0, [], R3, hlt, fun h => absurd h (by omega), by omega, ?_, by simp only [List.length_append, List.length_nil]; omega⟩, ?_⟩
              · rw [HL0.out]; exact HS.out
              · unfold wMu; rw [atOf_rdr R3, show wRank 4 = 0 from rfl]; omega
            · have t6 : (d == -1) = false := by simpa using e6
              have HS : Hid (R = Rr.bad at' 37) := by rw [if_neg (fun h => e6 h.2)] at h2; exact h2.symm
              clear e1 e2 e3 e5 e6 h2 t1 t2
              go_wp2_with (go_at_call 44; (with_reducible refine cL.mono ?_); rintro e V1 ⟨rfl, q, hq⟩; have R1 := hS.drew q; rw [← hq] at R1; have B1 := hbS.trans ((drewN_belowS _ q).mono hbS.size); rw [← hq] at B1; clear hq; obtain ⟨x0, x1, x2, x3, x4, x5, xz⟩ := box6 R1.row; have xz1 := xz 1)
              simp only [Exit.inBlock, Exit.then, jmp]
              go_ret2
              refine ⟨B1, ?_⟩
              rw [HS.out]
              rfl
          · have t5 : (bt s at' == 36) = false := by simpa using e5
            have HS : Hid (R = Rr.bad at' 37) := by rw [if_neg (fun h => e5 h.1)] at h2; exact h2.symm
            clear e1 e2 h2 e5
            generalize bt s at' = bv at cL t1 t2 t5 e3
            by_cases e7 : 49 ≤ bv
            · have t3 : decide (49 ≤ bv) = true := by simp [e7]
              have t4 : decide (bv ≤ 57) = false := by simp; omega
              have t4' : ¬ bv ≤ 57 := by omega
              clear e3
              go_wp2_with (go_at_call 44; (with_reducible refine cL.mono ?_); rintro e V1 ⟨rfl, q, hq⟩; have R1 := hS.drew q; rw [← hq] at R1; have B1 := hbS.trans ((drewN_belowS _ q).mono hbS.size); rw [← hq] at B1; clear hq; obtain ⟨x0, x1, x2, x3, x4, x5, xz⟩ := box6 R1.row; have xz1 := xz 1)
              simp only [Exit.inBlock, Exit.then, jmp]
              go_ret2
              refine ⟨B1, ?_⟩
              rw [HS.out]
              rfl
            · have t3 : decide (49 ≤ bv) = false := by simp; omega
              clear e3
              go_wp2_with (go_at_call 44; (with_reducible refine cL.mono ?_); rintro e V1 ⟨rfl, q, hq⟩; have R1 := hS.drew q; rw [← hq] at R1; have B1 := hbS.trans ((drewN_belowS _ q).mono hbS.size); rw [← hq] at B1; clear hq; obtain ⟨x0, x1, x2, x3, x4, x5, xz⟩ := box6 R1.row; have xz1 := xz 1)
              simp only [Exit.inBlock, Exit.then, jmp]
              go_ret2
              refine ⟨B1, ?_⟩
              rw [HS.out]
              rfl
end Go.Proofs.YtppcfpiihkaopaaGreatDoor
