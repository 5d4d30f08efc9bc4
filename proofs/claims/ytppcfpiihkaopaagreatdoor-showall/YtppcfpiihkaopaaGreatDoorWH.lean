
/- The document's reader. -/

import Derived.Test.YtppcfpiihkaopaaGreatDoorWG

namespace Go.Proofs.YtppcfpiihkaopaaGreatDoor

open Go.RowKit

set_option linter.unusedVariables false

/-- One step of the reader, by the number that is told. -/
theorem scnS_num (l : List UInt8) (f a : Nat) (D : Int) (L N : List Int) (hc : bt l a = 95 ∨ (48 ≤ bt l a ∧ bt l a ≤ 57)) :
    scn l (f + 1) a D L N = if (scS l a).2.2 = 0 then bhd l (scn l f) (scS l a).2.1 D L (N ++ [(scS l a).1]) else Rr.bad (scS l a).2.1 (scS l a).2.2 := by
  have hn : ∀ u k, nmb l k a u D L N = if (numS l a u).2.2 = 0 then bhd l k (numS l a u).2.1 D L (N ++ [(numS l a u).1]) else Rr.bad (numS l a u).2.1 (numS l a u).2.2 := fun u k => by
    unfold nmb numS
    cases Go.Lib.parseIntB 64 (fixm (pce l a u)) <;> rfl
  by_cases h95 : bt l a = 95
  · by_cases h1 : 49 ≤ bt l (a + 1) ∧ bt l (a + 1) ≤ 57
    · have e : scS l a = numS l a (a + 2 + dgs l (a + 2)) := by unfold scS; rw [if_pos h95, if_pos h1]
      have e2 : scn l (f + 1) a D L N = nmb l (scn l f) a (a + 2 + dgs l (a + 2)) D L N := by
        rw [scn, if_pos h95, if_pos h1]
      rw [e, e2]
      exact hn _ _
    · have e : scS l a = (0, a + 1, 37) := by unfold scS; rw [if_pos h95, if_neg h1]
      have e2 : scn l (f + 1) a D L N = Rr.bad (a + 1) 37 := by rw [scn, if_pos h95, if_neg h1]
      rw [e, e2]
      rfl
  · have hd := hc.resolve_left h95
    by_cases h48 : bt l a = 48
    · have e2 : scn l (f + 1) a D L N = nmb l (scn l f) a (a + 1) D L N := by rw [scn, if_neg h95, if_pos h48]
      rw [e2]
      by_cases h2 : 48 ≤ bt l (a + 1) ∧ bt l (a + 1) ≤ 57
      · have e : scS l a = (0, a + 1, 37) := by unfold scS; rw [if_neg h95, if_pos ⟨h48, h2⟩]
        rw [e]
        have hal : a < l.length := by
          rcases Nat.lt_or_ge a l.length with h | h
          · exact h
          · rw [bt_none h] at h48; omega
        have hp : pce l a (a + 1) = [48] := by
          unfold pce
          have h1 : l[a]'hal = 48 := by
            have := bt_get hal
            rw [h48] at this
            exact byte_eq (n := 48) (by omega)
          rw [show a + 1 - a = 0 + 1 from by omega, List.drop_eq_getElem_cons hal, List.take_succ_cons, h1]; rfl
        have e3 : nmb l (scn l f) a (a + 1) D L N = bhd l (scn l f) (a + 1) D L (N ++ [0]) := by
          unfold nmb
          rw [hp, show Go.Lib.parseIntB 64 (fixm [48]) = .ok 0 from by decide]
        rw [e3]
        unfold bhd
        rw [if_neg (by omega), if_neg (by omega)]
        rfl
      · have e : scS l a = numS l a (a + 1) := by
          unfold scS
          rw [if_neg h95, if_neg (fun e => h2 e.2), dgs_none h2]
        rw [e]
        exact hn _ _
    · have e2 : scn l (f + 1) a D L N = nmb l (scn l f) a (a + 1 + dgs l (a + 1)) D L N := by rw [scn, if_neg h95, if_neg h48, if_pos (by omega)]
      have e : scS l a = numS l a (a + 1 + dgs l (a + 1)) := by unfold scS; rw [if_neg h95, if_neg (fun e => h48 e.1)]
      rw [e, e2]
      exact hn _ _
theorem scn_bad (l : List UInt8) (f a : Nat) (D : Int) (L N : List Int) (hc : ¬ (bt l a = 95 ∨ (48 ≤ bt l a ∧ bt l a ≤ 57))) (h36 : ¬ (bt l a = 36 ∧ D = -1)) : scn l (f + 1) a D L N = Rr.bad a 37 := by
  unfold scn
  rw [if_neg (fun e => hc (.inl e)), if_neg (fun e => hc (.inr (by omega))), if_neg (fun e => hc (.inr (by omega))), if_neg h36]
theorem scn_mark (l : List UInt8) (f a : Nat) (D : Int) (L N : List Int) (h36 : bt l a = 36) (hD : D = -1) : scn l (f + 1) a D L N = bhd l (scn l f) (a + 1) a N [] := by
  unfold scn
  rw [if_neg (by omega), if_neg (by omega), if_neg (by omega), if_pos ⟨h36, hD⟩]
theorem num_bd (l : List UInt8) (a u : Nat) (h : (numS l a u).2.2 = 0) : (numS l a u).2.1 = u ∧ -9223372036854775808 ≤ (numS l a u).1 ∧ (numS l a u).1 ≤ 9223372036854775807 := by
  unfold numS at h ⊢
  cases e : Go.Lib.parseIntB 64 (fixm (pce l a u)) with
  | ok v =>
    have hb := Go.Lib.parseIntB_bounds e
    have e63 : ((2 ^ (64 - 1) : Nat) : Int) = 9223372036854775808 := by decide
    rw [e63] at hb
    exact ⟨rfl, hb.1, by show v ≤ _; omega⟩
  | _ => rw [e] at h; cases h
theorem scS_bd (l : List UInt8) (a : Nat) (ha : a < l.length) (hc : bt l a = 95 ∨ (48 ≤ bt l a ∧ bt l a ≤ 57)) (h : (scS l a).2.2 = 0) : a < (scS l a).2.1 ∧ (scS l a).2.1 ≤ l.length ∧ -9223372036854775808 ≤ (scS l a).1 ∧ (scS l a).1 ≤ 9223372036854775807 := by
  unfold scS at h ⊢
  by_cases h95 : bt l a = 95
  · rw [if_pos h95] at h ⊢
    by_cases h1 : 49 ≤ bt l (a + 1) ∧ bt l (a + 1) ≤ 57
    · rw [if_pos h1] at h ⊢
      have hal : a + 1 < l.length := by
        rcases Nat.lt_or_ge (a + 1) l.length with h | h
        · exact h
        · rw [bt_none h] at h1; omega
      obtain ⟨q1, q2, q3⟩ := num_bd l a _ h
      have := dgs_le l (a + 2) (by omega)
      rw [q1]
      exact ⟨by omega, this, q2, q3⟩
    · rw [if_neg h1] at h
      cases h
  · rw [if_neg h95] at h ⊢
    by_cases h2 : bt l a = 48 ∧ 48 ≤ bt l (a + 1) ∧ bt l (a + 1) ≤ 57
    · rw [if_pos h2] at h
      cases h
    · rw [if_neg h2] at h ⊢
      obtain ⟨q1, q2, q3⟩ := num_bd l a _ h
      have := dgs_le l (a + 1) (by omega)
      rw [q1]
      exact ⟨by omega, this, q2, q3⟩
/-- What words hands out. -/
def rsX : Rr → List Int
  | .inl _ => []
  | .inr (D, L, N) => if D = -1 then N else L
def rsY : Rr → List Int
  | .inl _ => []
  | .inr (D, L, N) => if D = -1 then [] else N
def rsD : Rr → Int
  | .inl _ => 0
  | .inr (D, _, _) => D
def rsP : Rr → Int
  | .inl (p, _) => (p : Nat)
  | .inr _ => 0
def rsE : Rr → Int
  | .inl (_, e) => e
  | .inr _ => 0
def AnsW (w : World) (R : Rr) (e : Ending) (w' : World) : Prop := ∃ (xo : Option Addr) (xn xc : Nat) (yo : Option Addr) (yn yc : Nat), e = .returned (.tuple #[.slice xo xn xc, .slice yo yn yc, .int .i64 (rsD R), .int .i64 (rsP R), .int .i64 (rsE R)]) ∧ Ft 2 w' w.heap.size xo xn xc (rsX R) ∧ Ft 2 w' w.heap.size yo yn yc (rsY R) ∧ Below w.heap.size w w' ∧ (rsD R = -1 → 1 ≤ xn)
theorem ansW_bad {w V : World} {p : Nat} {e : Int} {R : Rr} (hR : R = .inl (p, e)) (hb : Below w.heap.size w V) : AnsW w R (.returned (.tuple #[.slice none 0 0, .slice none 0 0, .int .i64 0, .int .i64 (p : Nat), .int .i64 e])) V := by
  subst hR
  exact ⟨none, 0, 0, none, 0, 0, rfl, Ft.nil _ _ _, Ft.nil _ _ _, hb, fun h => absurd (show (0 : Int) = -1 from h) (by decide)⟩
/-- Between two rounds: no mark so far. -/
structure W1 (l : List UInt8) (R : Rr) (w V : World) (k : Nat) (xo : Option Addr) (xn xc : Nat) (X : List Int) : Prop where
  le : k ≤ l.length
  bel : Below w.heap.size w V
  ft : Ft 2 V w.heap.size xo xn xc X
  len : xn ≤ k
  rr : ∃ f, l.length + 1 ≤ f + k ∧ scn l f k (-1) [] X = R
/-- Between two rounds, behind the mark. -/
structure W2 (l : List UInt8) (R : Rr) (w V : World) (k D : Nat) (xo : Option Addr) (xn xc : Nat) (X : List Int) (yo : Option Addr) (yn yc : Nat) (Y : List Int) : Prop where
  le : k ≤ l.length
  mkk : ∃ V0, Below w.heap.size w V0 ∧ Ft 2 V0 w.heap.size xo xn xc X ∧ Below V0.heap.size V0 V ∧ Ft 2 V V0.heap.size yo yn yc Y
  len : yn ≤ k
  dk : D ≤ l.length
  rr : ∃ f, l.length + 1 ≤ f + k ∧ scn l f k (D : Nat) X Y = R
def WS (l : List UInt8) (R : Rr) (w : World) (x y mk at' : Value) (V : World) : Prop :=
  ∃ k : Nat, at' = .int .i64 (k : Nat) ∧ ((∃ xo xn xc X, x = .slice xo xn xc ∧ y = .slice none 0 0 ∧ mk = .int .i64 (-1) ∧ W1 l R w V k xo xn xc X) ∨
    ∃ (D : Nat) (xo : Option Addr) (xn xc : Nat) (X : List Int) (yo : Option Addr) (yn yc : Nat) (Y : List Int), x = .slice xo xn xc ∧ y = .slice yo yn yc ∧ mk = .int .i64 (D : Nat) ∧ W2 l R w V k D xo xn xc X yo yn yc Y)
set_option linter.unusedSimpArgs false in
set_option maxHeartbeats 8000000 in
set_option maxRecDepth 100000 in
theorem words10_any (l : List UInt8) (w : World) (hl : l.length ≤ 1048576) :
    Calls Tryz.prog 34 #[.string ⟨l.toArray⟩] w (AnsW w (scn l (l.length + 1) 0 (-1) [] [])) := by
  obtain ⟨R, hR⟩ : ∃ R, scn l (l.length + 1) 0 (-1) [] [] = R := ⟨_, rfl⟩
  rw [hR]
  go_enter Tryz.func34, Tryz.ntmps34
  go_wp2
  go_loopw [7, 8, 9, 10] (fun x y mk at' V => WS l R w x y mk at' V) (fun _ _ _ at' _ => l.length + 1 - (intOf at').toNat)
  case atStart => exact ⟨0, rfl, .inl ⟨none, 0, 0, [], rfl, rfl, rfl, ⟨Nat.zero_le _, Below.refl _ _, Ft.nil _ _ _, Nat.zero_le _, _, by omega, hR⟩⟩⟩
  case round =>
    obtain ⟨k, rfl, ⟨xo, xn, xc, X, rfl, rfl, rfl, H⟩ | ⟨D, xo, xn, xc, X, yo, yn, yc, Y, rfl, rfl, rfl, H⟩⟩ := hrel
    · clear hR
      obtain ⟨hkl, hbel, hft, hlen, f0, hf0, hr0⟩ := H
      obtain ⟨f, rfl⟩ : ∃ f, f0 = f + 1 := ⟨f0 - 1, by omega⟩
      have m0 : decide ((0 : Int) ≤ -1) = false := by decide
      have m1 : decide ((-1 : Int) < 0) = true := by decide
      by_cases hke : k = l.length
      · have te : ((k : Int) == (l.length : Int)) = true := by simp [hke]
        have te2 : (k == l.length) = true := by simp [hke]
        have hb : bt l k = -1 := bt_none (by omega)
        have HR : Hid (R = .inl (k, 37)) := by show _ = _; rw [← hr0]; exact scn_bad l f k _ _ _ (by rw [hb]; omega) (by rw [hb]; omega)
        clear hr0 hke hb hkl
        go_wp2
        refine bodyPost_ret (v := .tuple #[.slice none 0 0, .slice none 0 0, .int .i64 (0), .int .i64 ((k : Nat)), .int .i64 (37)]) (by simp [results, Tryz.results34]) rfl ?_
        exact ansW_bad HR.out hbel
      · have te : ((k : Int) == (l.length : Int)) = false := by simp; omega
        have te2 : (k == l.length) = false := by simp; omega
        have hkt : k < l.length := by omega
        have hki : (k : Int) < (l.length : Int) := by omega
        have ik : ∀ W, Sem.run Tryz.prog (Instr.index 9 (.string ⟨l.toArray⟩) (.int .i64 (k : Nat))) W = .ok (.int .u8 (bt l (k))) W := fun W => idx10 l k hkt W
        by_cases hnum : bt l k = 95 ∨ (48 ≤ bt l k ∧ bt l k ≤ 57)
        · have hS := scnS_num l f k (-1 : Int) [] X hnum
          rw [hr0] at hS
          have hbd := scS_bd l k hkt hnum
          obtain ⟨v, u, er, hsc⟩ : ∃ v u er, scS l k = (v, u, er) := ⟨_, _, _, rfl⟩
          have cN : Calls Tryz.prog 57 #[.string ⟨l.toArray⟩, .int .i64 (k : Nat)] wr fun e w' => e = .returned (.tuple #[.int .i64 v, .int .i64 (u : Nat), .int .i64 er]) ∧ Below wr.heap.size wr w' := by
            have := scanned_any l k wr (by omega) hkt hnum
            rw [hsc] at this
            exact this.mono fun _ _ h => h
          rw [hsc] at hS hbd
          have t36 : (bt l k == 36) = false := by simp; omega
          have t36n : (bt l k != 36) = true := by simp; omega
          have HNUM : Hid (bt l k = 95 ∨ (48 ≤ bt l k ∧ bt l k ≤ 57)) := hnum
          clear hsc hr0
          by_cases hE : er = 0
          · have HB : Hid (bhd l (scn l f) u (-1 : Int) [] (X ++ [v]) = R) := by show _ = _; rw [hS, if_pos hE]
            obtain ⟨hku', hul', hv0', hv1'⟩ := hbd hE
            have hku : k < u := hku'
            have hul : u ≤ l.length := hul'
            have hv0 : -9223372036854775808 ≤ v := hv0'
            have hv1 : v ≤ 9223372036854775807 := hv1'
            clear hku' hul' hv0' hv1'
            have HKU : Hid (k < u) := hku
            have tE : (er != 0) = false := by simpa using hE
            subst hE
            clear hS hbd
            by_cases h95 : bt l k = 95
            · have c1 : (bt l k != 95) = false := by simpa using h95
              have cD := fun W => digit10_any 0 false W (by decide)
              generalize bt l k = c at ik c1 t36 t36n
              clear h95 hnum
              have HV : Hid (-9223372036854775808 ≤ v ∧ v ≤ 9223372036854775807) := ⟨hv0, hv1⟩
              clear hv0 hv1
              by_cases huE : u = l.length
              · have ue : ((u : Int) == (l.length : Int)) = true := by simp [huE]
                have ue2 : (u == l.length) = true := by simp [huE]
                have HR : Hid (R = .inr ((-1 : Int), [], X ++ [v])) := by show _ = _; rw [← HB.out]; unfold bhd; rw [bt_none (by omega)]; rfl
                have HUE : Hid (u = l.length) := huE
                clear huE 
                go_wp2_with (first
                  | (go_at_call 56; (with_reducible refine (cD _).mono ?_); rintro e w' ⟨rfl, hw'⟩; have hw2' := hw'.symm; subst hw2'; clear hw')
                  | (go_at_call 57; (with_reducible refine cN.mono ?_); rintro e w5 ⟨rfl, b5⟩
                     have F5 := hft.below b5 (Nat.le_refl _)
                     have ka := box_below w5 (.cells #[.int .i64 v] 2)
                     have FV := ft_new 2 w5 [v] (by simp) (fun q hq => (by
                       have : q = 0 := by simpa using hq
                       subst this; exact HV.out))
                     have FA := F5.below ka (Nat.le_refl _)
                     have K5 := hbel.trans (b5.mono hbel.size)
                     have KA := K5.trans (ka.mono K5.size)
                     clear F5 ka)
                  | (at_builtin; refine wpList_joinG2 tyL rfl _ _ rfl w.heap.size _ _ _ _ _ _ _ [v] rfl rfl FA FV.rd FV.sl (by omega) KA.size ?_; intro co cc w6 F6 g6; have K6 := KA.trans (FA.growsBelow g6 KA.size)))
                refine bodyPost_ret (v := .tuple #[.slice co (xn + 1) cc, .slice none 0 0, .int .i64 (-1), .int .i64 (0), .int .i64 (0)]) (by simp [results, Tryz.results34]) rfl ?_
                have eX : rsX R = X ++ [v] := by rw [HR.out]; rfl
                have eY : rsY R = [] := by rw [HR.out]; rfl
                exact ⟨co, xn + 1, cc, none, 0, 0, by rw [HR.out]; rfl, by rw [eX]; exact F6, by rw [eY]; exact Ft.nil _ _ _, K6, fun _ => by omega⟩
              · have ue : ((u : Int) == (l.length : Int)) = false := by simp; omega
                have ue2 : (u == l.length) = false := by simp; omega
                have hut : u < l.length := by omega
                have hui : (u : Int) < (l.length : Int) := by omega
                have iu : ∀ W, Sem.run Tryz.prog (Instr.index 9 (.string ⟨l.toArray⟩) (.int .i64 (u : Nat))) W = .ok (.int .u8 (bt l (u))) W := fun W => idx10 l u hut W
                by_cases hu32 : bt l u = 32
                · have HR : Hid (scn l f (u + 1) (-1 : Int) ([]) (X ++ [v]) = R) := by show _ = _; rw [← HB.out]; unfold bhd; rw [if_pos hu32]
                  have t32 : (bt l u != 32) = false := by simpa using hu32
                  have wu : IntKind.i64.wrap ((u : Int) + 1) = ((u : Int) + 1) := by rw [IntKind.wrap_i64]; omega
                  generalize bt l u = cu at iu t32
                  clear hu32 
                  go_wp2_with (first
                    | (go_at_call 56; (with_reducible refine (cD _).mono ?_); rintro e w' ⟨rfl, hw'⟩; have hw2' := hw'.symm; subst hw2'; clear hw')
                    | (go_at_call 57; (with_reducible refine cN.mono ?_); rintro e w5 ⟨rfl, b5⟩
                       have F5 := hft.below b5 (Nat.le_refl _)
                       have ka := box_below w5 (.cells #[.int .i64 v] 2)
                       have FV := ft_new 2 w5 [v] (by simp) (fun q hq => (by
                         have : q = 0 := by simpa using hq
                         subst this; exact HV.out))
                       have FA := F5.below ka (Nat.le_refl _)
                       have K5 := hbel.trans (b5.mono hbel.size)
                       have KA := K5.trans (ka.mono K5.size)
                       clear F5 ka)
                    | (at_builtin; refine wpList_joinG2 tyL rfl _ _ rfl w.heap.size _ _ _ _ _ _ _ [v] rfl rfl FA FV.rd FV.sl (by omega) KA.size ?_; intro co cc w6 F6 g6; have K6 := KA.trans (FA.growsBelow g6 KA.size)))
                  go_roundw
                  case rel => exact ⟨u + 1, by go_num, .inl ⟨co, xn + 1, cc, X ++ [v], rfl, rfl, rfl, ⟨by omega, K6, F6, by have := HKU.out; omega, f, by have := HKU.out; omega, HR.out⟩⟩⟩
                  case measure => simp [intOf] <;> omega
                · have HR : Hid (R = .inl (u, 37)) := by show _ = _; rw [← HB.out]; unfold bhd; rw [if_neg hu32, if_neg (by have := bt_get hut; omega)]
                  have t32 : (bt l u != 32) = true := by simpa using hu32
                  generalize bt l u = cu at iu t32
                  clear hu32 
                  go_wp2_with (first
                    | (go_at_call 56; (with_reducible refine (cD _).mono ?_); rintro e w' ⟨rfl, hw'⟩; have hw2' := hw'.symm; subst hw2'; clear hw')
                    | (go_at_call 57; (with_reducible refine cN.mono ?_); rintro e w5 ⟨rfl, b5⟩
                       have F5 := hft.below b5 (Nat.le_refl _)
                       have ka := box_below w5 (.cells #[.int .i64 v] 2)
                       have FV := ft_new 2 w5 [v] (by simp) (fun q hq => (by
                         have : q = 0 := by simpa using hq
                         subst this; exact HV.out))
                       have FA := F5.below ka (Nat.le_refl _)
                       have K5 := hbel.trans (b5.mono hbel.size)
                       have KA := K5.trans (ka.mono K5.size)
                       clear F5 ka)
                    | (at_builtin; refine wpList_joinG2 tyL rfl _ _ rfl w.heap.size _ _ _ _ _ _ _ [v] rfl rfl FA FV.rd FV.sl (by omega) KA.size ?_; intro co cc w6 F6 g6; have K6 := KA.trans (FA.growsBelow g6 KA.size)))
                  refine bodyPost_ret (v := .tuple #[.slice none 0 0, .slice none 0 0, .int .i64 (0), .int .i64 ((u : Nat)), .int .i64 (37)]) (by simp [results, Tryz.results34]) rfl ?_
                  exact ansW_bad HR.out K6
            · have c1 : (bt l k != 95) = true := by simpa using h95
              have cD := fun W => digit10_any (bt l k) true W (by have := hnum.resolve_left h95; simp [this])
              generalize bt l k = c at ik c1 t36 t36n cD
              clear h95 hnum
              have HV : Hid (-9223372036854775808 ≤ v ∧ v ≤ 9223372036854775807) := ⟨hv0, hv1⟩
              clear hv0 hv1
              by_cases huE : u = l.length
              · have ue : ((u : Int) == (l.length : Int)) = true := by simp [huE]
                have ue2 : (u == l.length) = true := by simp [huE]
                have HR : Hid (R = .inr ((-1 : Int), [], X ++ [v])) := by show _ = _; rw [← HB.out]; unfold bhd; rw [bt_none (by omega)]; rfl
                have HUE : Hid (u = l.length) := huE
                clear huE 
                go_wp2_with (first
                  | (go_at_call 56; (with_reducible refine (cD _).mono ?_); rintro e w' ⟨rfl, hw'⟩; have hw2' := hw'.symm; subst hw2'; clear hw')
                  | (go_at_call 57; (with_reducible refine cN.mono ?_); rintro e w5 ⟨rfl, b5⟩
                     have F5 := hft.below b5 (Nat.le_refl _)
                     have ka := box_below w5 (.cells #[.int .i64 v] 2)
                     have FV := ft_new 2 w5 [v] (by simp) (fun q hq => (by
                       have : q = 0 := by simpa using hq
                       subst this; exact HV.out))
                     have FA := F5.below ka (Nat.le_refl _)
                     have K5 := hbel.trans (b5.mono hbel.size)
                     have KA := K5.trans (ka.mono K5.size)
                     clear F5 ka)
                  | (at_builtin; refine wpList_joinG2 tyL rfl _ _ rfl w.heap.size _ _ _ _ _ _ _ [v] rfl rfl FA FV.rd FV.sl (by omega) KA.size ?_; intro co cc w6 F6 g6; have K6 := KA.trans (FA.growsBelow g6 KA.size)))
                refine bodyPost_ret (v := .tuple #[.slice co (xn + 1) cc, .slice none 0 0, .int .i64 (-1), .int .i64 (0), .int .i64 (0)]) (by simp [results, Tryz.results34]) rfl ?_
                have eX : rsX R = X ++ [v] := by rw [HR.out]; rfl
                have eY : rsY R = [] := by rw [HR.out]; rfl
                exact ⟨co, xn + 1, cc, none, 0, 0, by rw [HR.out]; rfl, by rw [eX]; exact F6, by rw [eY]; exact Ft.nil _ _ _, K6, fun _ => by omega⟩
              · have ue : ((u : Int) == (l.length : Int)) = false := by simp; omega
                have ue2 : (u == l.length) = false := by simp; omega
                have hut : u < l.length := by omega
                have hui : (u : Int) < (l.length : Int) := by omega
                have iu : ∀ W, Sem.run Tryz.prog (Instr.index 9 (.string ⟨l.toArray⟩) (.int .i64 (u : Nat))) W = .ok (.int .u8 (bt l (u))) W := fun W => idx10 l u hut W
                by_cases hu32 : bt l u = 32
                · have HR : Hid (scn l f (u + 1) (-1 : Int) ([]) (X ++ [v]) = R) := by show _ = _; rw [← HB.out]; unfold bhd; rw [if_pos hu32]
                  have t32 : (bt l u != 32) = false := by simpa using hu32
                  have wu : IntKind.i64.wrap ((u : Int) + 1) = ((u : Int) + 1) := by rw [IntKind.wrap_i64]; omega
                  generalize bt l u = cu at iu t32
                  clear hu32 
                  go_wp2_with (first
                    | (go_at_call 56; (with_reducible refine (cD _).mono ?_); rintro e w' ⟨rfl, hw'⟩; have hw2' := hw'.symm; subst hw2'; clear hw')
                    | (go_at_call 57; (with_reducible refine cN.mono ?_); rintro e w5 ⟨rfl, b5⟩
                       have F5 := hft.below b5 (Nat.le_refl _)
                       have ka := box_below w5 (.cells #[.int .i64 v] 2)
                       have FV := ft_new 2 w5 [v] (by simp) (fun q hq => (by
                         have : q = 0 := by simpa using hq
                         subst this; exact HV.out))
                       have FA := F5.below ka (Nat.le_refl _)
                       have K5 := hbel.trans (b5.mono hbel.size)
                       have KA := K5.trans (ka.mono K5.size)
                       clear F5 ka)
                    | (at_builtin; refine wpList_joinG2 tyL rfl _ _ rfl w.heap.size _ _ _ _ _ _ _ [v] rfl rfl FA FV.rd FV.sl (by omega) KA.size ?_; intro co cc w6 F6 g6; have K6 := KA.trans (FA.growsBelow g6 KA.size)))
                  go_roundw
                  case rel => exact ⟨u + 1, by go_num, .inl ⟨co, xn + 1, cc, X ++ [v], rfl, rfl, rfl, ⟨by omega, K6, F6, by have := HKU.out; omega, f, by have := HKU.out; omega, HR.out⟩⟩⟩
                  case measure => simp [intOf] <;> omega
                · have HR : Hid (R = .inl (u, 37)) := by show _ = _; rw [← HB.out]; unfold bhd; rw [if_neg hu32, if_neg (by have := bt_get hut; omega)]
                  have t32 : (bt l u != 32) = true := by simpa using hu32
                  generalize bt l u = cu at iu t32
                  clear hu32 
                  go_wp2_with (first
                    | (go_at_call 56; (with_reducible refine (cD _).mono ?_); rintro e w' ⟨rfl, hw'⟩; have hw2' := hw'.symm; subst hw2'; clear hw')
                    | (go_at_call 57; (with_reducible refine cN.mono ?_); rintro e w5 ⟨rfl, b5⟩
                       have F5 := hft.below b5 (Nat.le_refl _)
                       have ka := box_below w5 (.cells #[.int .i64 v] 2)
                       have FV := ft_new 2 w5 [v] (by simp) (fun q hq => (by
                         have : q = 0 := by simpa using hq
                         subst this; exact HV.out))
                       have FA := F5.below ka (Nat.le_refl _)
                       have K5 := hbel.trans (b5.mono hbel.size)
                       have KA := K5.trans (ka.mono K5.size)
                       clear F5 ka)
                    | (at_builtin; refine wpList_joinG2 tyL rfl _ _ rfl w.heap.size _ _ _ _ _ _ _ [v] rfl rfl FA FV.rd FV.sl (by omega) KA.size ?_; intro co cc w6 F6 g6; have K6 := KA.trans (FA.growsBelow g6 KA.size)))
                  refine bodyPost_ret (v := .tuple #[.slice none 0 0, .slice none 0 0, .int .i64 (0), .int .i64 ((u : Nat)), .int .i64 (37)]) (by simp [results, Tryz.results34]) rfl ?_
                  exact ansW_bad HR.out K6
          · have HR : Hid (R = .inl (u, er)) := by show _ = _; rw [hS, if_neg hE]
            have tE : (er != 0) = true := by simpa using hE
            have tE2 : (er == 0) = false := by simpa using hE
            clear hS hbd hE
            by_cases h95 : bt l k = 95
            · have c1 : (bt l k != 95) = false := by simpa using h95
              generalize bt l k = c at ik c1 t36 t36n
              clear h95 hnum
              go_wp2_with (go_at_call 57; (with_reducible refine cN.mono ?_); rintro e w5 ⟨rfl, b5⟩)
              refine bodyPost_ret (v := .tuple #[.slice none 0 0, .slice none 0 0, .int .i64 (0), .int .i64 ((u : Nat)), .int .i64 (er)]) (by simp [results, Tryz.results34]) rfl ?_
              exact ansW_bad HR.out (hbel.trans (b5.mono hbel.size))
            · have c1 : (bt l k != 95) = true := by simpa using h95
              have cD := fun W => digit10_any (bt l k) true W (by have := hnum.resolve_left h95; simp [this])
              generalize bt l k = c at ik c1 t36 t36n cD
              clear h95 hnum
              go_wp2_with (first
                | (go_at_call 56; (with_reducible refine (cD _).mono ?_); rintro e w' ⟨rfl, hw'⟩; have hw2' := hw'.symm; subst hw2'; clear hw')
                | (go_at_call 57; (with_reducible refine cN.mono ?_); rintro e w5 ⟨rfl, b5⟩))
              refine bodyPost_ret (v := .tuple #[.slice none 0 0, .slice none 0 0, .int .i64 (0), .int .i64 ((u : Nat)), .int .i64 (er)]) (by simp [results, Tryz.results34]) rfl ?_
              exact ansW_bad HR.out (hbel.trans (b5.mono hbel.size))
        · by_cases h36 : bt l k = 36
          · obtain ⟨u, hu⟩ : ∃ u, u = k + 1 := ⟨_, rfl⟩
            have HB : Hid (bhd l (scn l f) u ((k : Nat) : Int) X [] = R) := by show _ = _; rw [hu, ← hr0]; exact (scn_mark l f k _ _ _ h36 rfl).symm
            have hul : u ≤ l.length := by omega
            have wk : IntKind.i64.wrap ((k : Int) + 1) = (u : Int) := by rw [IntKind.wrap_i64]; omega
            have ek : (k : Int) + 1 = (u : Int) := by omega
            have c1 : (bt l k != 95) = true := by simp; exact fun e => hnum (.inl e)
            have c2 : (bt l k != 36) = false := by simpa using h36
            have c3 : (bt l k == 36) = true := by simpa using h36
            have HU : Hid (u = k + 1) := hu
            have HK : Hid (bt l k = 36) := h36
            have huk : k < u := by omega
            generalize bt l k = c at ik c1 c2 c3
            clear hr0 hnum h36 hu
            by_cases huE : u = l.length
            · have ue : ((u : Int) == (l.length : Int)) = true := by simp [huE]
              have ue2 : (u == l.length) = true := by simp [huE]
              have HR : Hid (R = .inr (((k : Nat) : Int), X, [])) := by show _ = _; rw [← HB.out]; unfold bhd; rw [bt_none (by omega)]; rfl
              have HUE : Hid (u = l.length) := huE
              clear huE 
              go_wp2
              refine bodyPost_ret (v := .tuple #[.slice xo xn xc, .slice none 0 0, .int .i64 (((k : Nat) : Int)), .int .i64 (0), .int .i64 (0)]) (by simp [results, Tryz.results34]) rfl ?_
              have eX : rsX R = X := by rw [HR.out]; show (if ((k : Nat) : Int) = -1 then [] else X) = X; rw [if_neg (by omega)]
              have eY : rsY R = [] := by rw [HR.out]; show (if ((k : Nat) : Int) = -1 then [] else []) = []; rw [if_neg (by omega)]
              exact ⟨xo, xn, xc, none, 0, 0, by rw [HR.out]; rfl, by rw [eX]; exact hft, by rw [eY]; exact Ft.nil _ _ _, hbel, fun h => by rw [HR.out] at h; have h' : ((k : Nat) : Int) = -1 := h; omega⟩
            · have ue : ((u : Int) == (l.length : Int)) = false := by simp; omega
              have ue2 : (u == l.length) = false := by simp; omega
              have hut : u < l.length := by omega
              have hui : (u : Int) < (l.length : Int) := by omega
              have iu : ∀ W, Sem.run Tryz.prog (Instr.index 9 (.string ⟨l.toArray⟩) (.int .i64 (u : Nat))) W = .ok (.int .u8 (bt l (u))) W := fun W => idx10 l u hut W
              by_cases hu32 : bt l u = 32
              · have HR : Hid (scn l f (u + 1) ((k : Nat) : Int) (X) ([]) = R) := by show _ = _; rw [← HB.out]; unfold bhd; rw [if_pos hu32]
                have t32 : (bt l u != 32) = false := by simpa using hu32
                have wu : IntKind.i64.wrap ((u : Int) + 1) = ((u : Int) + 1) := by rw [IntKind.wrap_i64]; omega
                generalize bt l u = cu at iu t32
                clear hu32 
                go_wp2
                go_roundw
                case rel => exact ⟨u + 1, by go_num, .inr ⟨k, xo, xn, xc, X, none, 0, 0, [], rfl, rfl, rfl, ⟨by omega, ⟨wr, hbel, hft, Below.refl _ _, Ft.nil _ _ _⟩, by omega, by omega, f, by omega, HR.out⟩⟩⟩
                case measure => simp [intOf] <;> omega
              · have HR : Hid (R = .inl (u, 37)) := by show _ = _; rw [← HB.out]; unfold bhd; rw [if_neg hu32, if_neg (by have := bt_get hut; omega)]
                have t32 : (bt l u != 32) = true := by simpa using hu32
                generalize bt l u = cu at iu t32
                clear hu32 
                go_wp2
                refine bodyPost_ret (v := .tuple #[.slice none 0 0, .slice none 0 0, .int .i64 (0), .int .i64 ((u : Nat)), .int .i64 (37)]) (by simp [results, Tryz.results34]) rfl ?_
                exact ansW_bad HR.out hbel
          · have HR : Hid (R = .inl (k, 37)) := by show _ = _; rw [← hr0]; exact scn_bad l f k _ _ _ hnum (fun e => h36 e.1)
            have c1 : (bt l k != 95) = true := by simp; exact fun e => hnum (.inl e)
            have c2 : (bt l k != 36) = true := by simpa using h36
            have cD := fun W => digit10_any (bt l k) false W (by simp; omega)
            generalize bt l k = c at *
            clear hr0 hnum h36
            go_wp2_with (go_at_call 56; (with_reducible refine (cD _).mono ?_); rintro e w' ⟨rfl, hw'⟩; have hw2' := hw'.symm; subst hw2'; clear hw')
            refine bodyPost_ret (v := .tuple #[.slice none 0 0, .slice none 0 0, .int .i64 (0), .int .i64 ((k : Nat)), .int .i64 (37)]) (by simp [results, Tryz.results34]) rfl ?_
            exact ansW_bad HR.out hbel
    · clear hR
      obtain ⟨hkl, ⟨V0, hb0, hft0, hb1, hft⟩, hlen, hdk, f0, hf0, hr0⟩ := H
      have hbel := hb0.trans (hb1.mono hb0.size)
      obtain ⟨f, rfl⟩ : ∃ f, f0 = f + 1 := ⟨f0 - 1, by omega⟩
      have m0 : decide ((0 : Int) ≤ ((D : Nat) : Int)) = true := by simp
      have m1 : decide (((D : Nat) : Int) < 0) = false := by simp
      have m1n : ¬ ((D : Nat) : Int) < 0 := by omega
      by_cases hke : k = l.length
      · have te : ((k : Int) == (l.length : Int)) = true := by simp [hke]
        have te2 : (k == l.length) = true := by simp [hke]
        have hb : bt l k = -1 := bt_none (by omega)
        have HR : Hid (R = .inl (k, 37)) := by show _ = _; rw [← hr0]; exact scn_bad l f k _ _ _ (by rw [hb]; omega) (by rw [hb]; omega)
        clear hr0 hke hb hkl
        go_wp2
        refine bodyPost_ret (v := .tuple #[.slice none 0 0, .slice none 0 0, .int .i64 (0), .int .i64 ((k : Nat)), .int .i64 (37)]) (by simp [results, Tryz.results34]) rfl ?_
        exact ansW_bad HR.out hbel
      · have te : ((k : Int) == (l.length : Int)) = false := by simp; omega
        have te2 : (k == l.length) = false := by simp; omega
        have hkt : k < l.length := by omega
        have hki : (k : Int) < (l.length : Int) := by omega
        have ik : ∀ W, Sem.run Tryz.prog (Instr.index 9 (.string ⟨l.toArray⟩) (.int .i64 (k : Nat))) W = .ok (.int .u8 (bt l (k))) W := fun W => idx10 l k hkt W
        by_cases hnum : bt l k = 95 ∨ (48 ≤ bt l k ∧ bt l k ≤ 57)
        · have hS := scnS_num l f k ((D : Nat) : Int) X Y hnum
          rw [hr0] at hS
          have hbd := scS_bd l k hkt hnum
          obtain ⟨v, u, er, hsc⟩ : ∃ v u er, scS l k = (v, u, er) := ⟨_, _, _, rfl⟩
          have cN : Calls Tryz.prog 57 #[.string ⟨l.toArray⟩, .int .i64 (k : Nat)] wr fun e w' => e = .returned (.tuple #[.int .i64 v, .int .i64 (u : Nat), .int .i64 er]) ∧ Below wr.heap.size wr w' := by
            have := scanned_any l k wr (by omega) hkt hnum
            rw [hsc] at this
            exact this.mono fun _ _ h => h
          rw [hsc] at hS hbd
          have t36 : (bt l k == 36) = false := by simp; omega
          have t36n : (bt l k != 36) = true := by simp; omega
          have HNUM : Hid (bt l k = 95 ∨ (48 ≤ bt l k ∧ bt l k ≤ 57)) := hnum
          clear hsc hr0
          by_cases hE : er = 0
          · have HB : Hid (bhd l (scn l f) u ((D : Nat) : Int) X (Y ++ [v]) = R) := by show _ = _; rw [hS, if_pos hE]
            obtain ⟨hku', hul', hv0', hv1'⟩ := hbd hE
            have hku : k < u := hku'
            have hul : u ≤ l.length := hul'
            have hv0 : -9223372036854775808 ≤ v := hv0'
            have hv1 : v ≤ 9223372036854775807 := hv1'
            clear hku' hul' hv0' hv1'
            have HKU : Hid (k < u) := hku
            have tE : (er != 0) = false := by simpa using hE
            subst hE
            clear hS hbd
            by_cases h95 : bt l k = 95
            · have c1 : (bt l k != 95) = false := by simpa using h95
              have cD := fun W => digit10_any 0 false W (by decide)
              generalize bt l k = c at ik c1 t36 t36n
              clear h95 hnum
              have HV : Hid (-9223372036854775808 ≤ v ∧ v ≤ 9223372036854775807) := ⟨hv0, hv1⟩
              clear hv0 hv1
              by_cases huE : u = l.length
              · have ue : ((u : Int) == (l.length : Int)) = true := by simp [huE]
                have ue2 : (u == l.length) = true := by simp [huE]
                have HR : Hid (R = .inr (((D : Nat) : Int), X, Y ++ [v])) := by show _ = _; rw [← HB.out]; unfold bhd; rw [bt_none (by omega)]; rfl
                have HUE : Hid (u = l.length) := huE
                clear huE 
                go_wp2_with (first
                  | (go_at_call 56; (with_reducible refine (cD _).mono ?_); rintro e w' ⟨rfl, hw'⟩; have hw2' := hw'.symm; subst hw2'; clear hw')
                  | (go_at_call 57; (with_reducible refine cN.mono ?_); rintro e w5 ⟨rfl, b5⟩
                     have F5 := hft.below b5 (Nat.le_refl _)
                     have ka := box_below w5 (.cells #[.int .i64 v] 2)
                     have FV := ft_new 2 w5 [v] (by simp) (fun q hq => (by
                       have : q = 0 := by simpa using hq
                       subst this; exact HV.out))
                     have FA := F5.below ka (Nat.le_refl _)
                     have K5 := hb1.trans (b5.mono hb1.size)
                     have KA := K5.trans (ka.mono K5.size)
                     clear F5 ka)
                  | (at_builtin; refine wpList_joinG2 tyL rfl _ _ rfl V0.heap.size _ _ _ _ _ _ _ [v] rfl rfl FA FV.rd FV.sl (by omega) KA.size ?_; intro co cc w6 F6 g6; have K6 := KA.trans (FA.growsBelow g6 KA.size)))
                refine bodyPost_ret (v := .tuple #[.slice xo xn xc, .slice co (yn + 1) cc, .int .i64 (((D : Nat) : Int)), .int .i64 (0), .int .i64 (0)]) (by simp [results, Tryz.results34]) rfl ?_
                have eX : rsX R = X := by rw [HR.out]; show (if ((D : Nat) : Int) = -1 then Y ++ [v] else X) = X; rw [if_neg (by omega)]
                have eY : rsY R = Y ++ [v] := by rw [HR.out]; show (if ((D : Nat) : Int) = -1 then [] else Y ++ [v]) = Y ++ [v]; rw [if_neg (by omega)]
                exact ⟨xo, xn, xc, co, yn + 1, cc, by rw [HR.out]; rfl, by rw [eX]; exact hft0.below K6 (Nat.le_refl _), by rw [eY]; exact F6.mono hb0.size, hb0.trans (K6.mono hb0.size), fun h => by rw [HR.out] at h; have h' : ((D : Nat) : Int) = -1 := h; omega⟩
              · have ue : ((u : Int) == (l.length : Int)) = false := by simp; omega
                have ue2 : (u == l.length) = false := by simp; omega
                have hut : u < l.length := by omega
                have hui : (u : Int) < (l.length : Int) := by omega
                have iu : ∀ W, Sem.run Tryz.prog (Instr.index 9 (.string ⟨l.toArray⟩) (.int .i64 (u : Nat))) W = .ok (.int .u8 (bt l (u))) W := fun W => idx10 l u hut W
                by_cases hu32 : bt l u = 32
                · have HR : Hid (scn l f (u + 1) ((D : Nat) : Int) (X) (Y ++ [v]) = R) := by show _ = _; rw [← HB.out]; unfold bhd; rw [if_pos hu32]
                  have t32 : (bt l u != 32) = false := by simpa using hu32
                  have wu : IntKind.i64.wrap ((u : Int) + 1) = ((u : Int) + 1) := by rw [IntKind.wrap_i64]; omega
                  generalize bt l u = cu at iu t32
                  clear hu32 
                  go_wp2_with (first
                    | (go_at_call 56; (with_reducible refine (cD _).mono ?_); rintro e w' ⟨rfl, hw'⟩; have hw2' := hw'.symm; subst hw2'; clear hw')
                    | (go_at_call 57; (with_reducible refine cN.mono ?_); rintro e w5 ⟨rfl, b5⟩
                       have F5 := hft.below b5 (Nat.le_refl _)
                       have ka := box_below w5 (.cells #[.int .i64 v] 2)
                       have FV := ft_new 2 w5 [v] (by simp) (fun q hq => (by
                         have : q = 0 := by simpa using hq
                         subst this; exact HV.out))
                       have FA := F5.below ka (Nat.le_refl _)
                       have K5 := hb1.trans (b5.mono hb1.size)
                       have KA := K5.trans (ka.mono K5.size)
                       clear F5 ka)
                    | (at_builtin; refine wpList_joinG2 tyL rfl _ _ rfl V0.heap.size _ _ _ _ _ _ _ [v] rfl rfl FA FV.rd FV.sl (by omega) KA.size ?_; intro co cc w6 F6 g6; have K6 := KA.trans (FA.growsBelow g6 KA.size)))
                  go_roundw
                  case rel => exact ⟨u + 1, by go_num, .inr ⟨D, xo, xn, xc, X, co, yn + 1, cc, Y ++ [v], rfl, rfl, rfl, ⟨by omega, ⟨V0, hb0, hft0, K6, F6⟩, by have := HKU.out; omega, hdk, f, by have := HKU.out; omega, HR.out⟩⟩⟩
                  case measure => simp [intOf] <;> omega
                · have HR : Hid (R = .inl (u, 37)) := by show _ = _; rw [← HB.out]; unfold bhd; rw [if_neg hu32, if_neg (by have := bt_get hut; omega)]
                  have t32 : (bt l u != 32) = true := by simpa using hu32
                  generalize bt l u = cu at iu t32
                  clear hu32 
                  go_wp2_with (first
                    | (go_at_call 56; (with_reducible refine (cD _).mono ?_); rintro e w' ⟨rfl, hw'⟩; have hw2' := hw'.symm; subst hw2'; clear hw')
                    | (go_at_call 57; (with_reducible refine cN.mono ?_); rintro e w5 ⟨rfl, b5⟩
                       have F5 := hft.below b5 (Nat.le_refl _)
                       have ka := box_below w5 (.cells #[.int .i64 v] 2)
                       have FV := ft_new 2 w5 [v] (by simp) (fun q hq => (by
                         have : q = 0 := by simpa using hq
                         subst this; exact HV.out))
                       have FA := F5.below ka (Nat.le_refl _)
                       have K5 := hb1.trans (b5.mono hb1.size)
                       have KA := K5.trans (ka.mono K5.size)
                       clear F5 ka)
                    | (at_builtin; refine wpList_joinG2 tyL rfl _ _ rfl V0.heap.size _ _ _ _ _ _ _ [v] rfl rfl FA FV.rd FV.sl (by omega) KA.size ?_; intro co cc w6 F6 g6; have K6 := KA.trans (FA.growsBelow g6 KA.size)))
                  refine bodyPost_ret (v := .tuple #[.slice none 0 0, .slice none 0 0, .int .i64 (0), .int .i64 ((u : Nat)), .int .i64 (37)]) (by simp [results, Tryz.results34]) rfl ?_
                  exact ansW_bad HR.out (hb0.trans (K6.mono hb0.size))
            · have c1 : (bt l k != 95) = true := by simpa using h95
              have cD := fun W => digit10_any (bt l k) true W (by have := hnum.resolve_left h95; simp [this])
              generalize bt l k = c at ik c1 t36 t36n cD
              clear h95 hnum
              have HV : Hid (-9223372036854775808 ≤ v ∧ v ≤ 9223372036854775807) := ⟨hv0, hv1⟩
              clear hv0 hv1
              by_cases huE : u = l.length
              · have ue : ((u : Int) == (l.length : Int)) = true := by simp [huE]
                have ue2 : (u == l.length) = true := by simp [huE]
                have HR : Hid (R = .inr (((D : Nat) : Int), X, Y ++ [v])) := by show _ = _; rw [← HB.out]; unfold bhd; rw [bt_none (by omega)]; rfl
                have HUE : Hid (u = l.length) := huE
                clear huE 
                go_wp2_with (first
                  | (go_at_call 56; (with_reducible refine (cD _).mono ?_); rintro e w' ⟨rfl, hw'⟩; have hw2' := hw'.symm; subst hw2'; clear hw')
                  | (go_at_call 57; (with_reducible refine cN.mono ?_); rintro e w5 ⟨rfl, b5⟩
                     have F5 := hft.below b5 (Nat.le_refl _)
                     have ka := box_below w5 (.cells #[.int .i64 v] 2)
                     have FV := ft_new 2 w5 [v] (by simp) (fun q hq => (by
                       have : q = 0 := by simpa using hq
                       subst this; exact HV.out))
                     have FA := F5.below ka (Nat.le_refl _)
                     have K5 := hb1.trans (b5.mono hb1.size)
                     have KA := K5.trans (ka.mono K5.size)
                     clear F5 ka)
                  | (at_builtin; refine wpList_joinG2 tyL rfl _ _ rfl V0.heap.size _ _ _ _ _ _ _ [v] rfl rfl FA FV.rd FV.sl (by omega) KA.size ?_; intro co cc w6 F6 g6; have K6 := KA.trans (FA.growsBelow g6 KA.size)))
                refine bodyPost_ret (v := .tuple #[.slice xo xn xc, .slice co (yn + 1) cc, .int .i64 (((D : Nat) : Int)), .int .i64 (0), .int .i64 (0)]) (by simp [results, Tryz.results34]) rfl ?_
                have eX : rsX R = X := by rw [HR.out]; show (if ((D : Nat) : Int) = -1 then Y ++ [v] else X) = X; rw [if_neg (by omega)]
                have eY : rsY R = Y ++ [v] := by rw [HR.out]; show (if ((D : Nat) : Int) = -1 then [] else Y ++ [v]) = Y ++ [v]; rw [if_neg (by omega)]
                exact ⟨xo, xn, xc, co, yn + 1, cc, by rw [HR.out]; rfl, by rw [eX]; exact hft0.below K6 (Nat.le_refl _), by rw [eY]; exact F6.mono hb0.size, hb0.trans (K6.mono hb0.size), fun h => by rw [HR.out] at h; have h' : ((D : Nat) : Int) = -1 := h; omega⟩
              · have ue : ((u : Int) == (l.length : Int)) = false := by simp; omega
                have ue2 : (u == l.length) = false := by simp; omega
                have hut : u < l.length := by omega
                have hui : (u : Int) < (l.length : Int) := by omega
                have iu : ∀ W, Sem.run Tryz.prog (Instr.index 9 (.string ⟨l.toArray⟩) (.int .i64 (u : Nat))) W = .ok (.int .u8 (bt l (u))) W := fun W => idx10 l u hut W
                by_cases hu32 : bt l u = 32
                · have HR : Hid (scn l f (u + 1) ((D : Nat) : Int) (X) (Y ++ [v]) = R) := by show _ = _; rw [← HB.out]; unfold bhd; rw [if_pos hu32]
                  have t32 : (bt l u != 32) = false := by simpa using hu32
                  have wu : IntKind.i64.wrap ((u : Int) + 1) = ((u : Int) + 1) := by rw [IntKind.wrap_i64]; omega
                  generalize bt l u = cu at iu t32
                  clear hu32 
                  go_wp2_with (first
                    | (go_at_call 56; (with_reducible refine (cD _).mono ?_); rintro e w' ⟨rfl, hw'⟩; have hw2' := hw'.symm; subst hw2'; clear hw')
                    | (go_at_call 57; (with_reducible refine cN.mono ?_); rintro e w5 ⟨rfl, b5⟩
                       have F5 := hft.below b5 (Nat.le_refl _)
                       have ka := box_below w5 (.cells #[.int .i64 v] 2)
                       have FV := ft_new 2 w5 [v] (by simp) (fun q hq => (by
                         have : q = 0 := by simpa using hq
                         subst this; exact HV.out))
                       have FA := F5.below ka (Nat.le_refl _)
                       have K5 := hb1.trans (b5.mono hb1.size)
                       have KA := K5.trans (ka.mono K5.size)
                       clear F5 ka)
                    | (at_builtin; refine wpList_joinG2 tyL rfl _ _ rfl V0.heap.size _ _ _ _ _ _ _ [v] rfl rfl FA FV.rd FV.sl (by omega) KA.size ?_; intro co cc w6 F6 g6; have K6 := KA.trans (FA.growsBelow g6 KA.size)))
                  go_roundw
                  case rel => exact ⟨u + 1, by go_num, .inr ⟨D, xo, xn, xc, X, co, yn + 1, cc, Y ++ [v], rfl, rfl, rfl, ⟨by omega, ⟨V0, hb0, hft0, K6, F6⟩, by have := HKU.out; omega, hdk, f, by have := HKU.out; omega, HR.out⟩⟩⟩
                  case measure => simp [intOf] <;> omega
                · have HR : Hid (R = .inl (u, 37)) := by show _ = _; rw [← HB.out]; unfold bhd; rw [if_neg hu32, if_neg (by have := bt_get hut; omega)]
                  have t32 : (bt l u != 32) = true := by simpa using hu32
                  generalize bt l u = cu at iu t32
                  clear hu32 
                  go_wp2_with (first
                    | (go_at_call 56; (with_reducible refine (cD _).mono ?_); rintro e w' ⟨rfl, hw'⟩; have hw2' := hw'.symm; subst hw2'; clear hw')
                    | (go_at_call 57; (with_reducible refine cN.mono ?_); rintro e w5 ⟨rfl, b5⟩
                       have F5 := hft.below b5 (Nat.le_refl _)
                       have ka := box_below w5 (.cells #[.int .i64 v] 2)
                       have FV := ft_new 2 w5 [v] (by simp) (fun q hq => (by
                         have : q = 0 := by simpa using hq
                         subst this; exact HV.out))
                       have FA := F5.below ka (Nat.le_refl _)
                       have K5 := hb1.trans (b5.mono hb1.size)
                       have KA := K5.trans (ka.mono K5.size)
                       clear F5 ka)
                    | (at_builtin; refine wpList_joinG2 tyL rfl _ _ rfl V0.heap.size _ _ _ _ _ _ _ [v] rfl rfl FA FV.rd FV.sl (by omega) KA.size ?_; intro co cc w6 F6 g6; have K6 := KA.trans (FA.growsBelow g6 KA.size)))
                  refine bodyPost_ret (v := .tuple #[.slice none 0 0, .slice none 0 0, .int .i64 (0), .int .i64 ((u : Nat)), .int .i64 (37)]) (by simp [results, Tryz.results34]) rfl ?_
                  exact ansW_bad HR.out (hb0.trans (K6.mono hb0.size))
          · have HR : Hid (R = .inl (u, er)) := by show _ = _; rw [hS, if_neg hE]
            have tE : (er != 0) = true := by simpa using hE
            have tE2 : (er == 0) = false := by simpa using hE
            clear hS hbd hE
            by_cases h95 : bt l k = 95
            · have c1 : (bt l k != 95) = false := by simpa using h95
              generalize bt l k = c at ik c1 t36 t36n
              clear h95 hnum
              go_wp2_with (go_at_call 57; (with_reducible refine cN.mono ?_); rintro e w5 ⟨rfl, b5⟩)
              refine bodyPost_ret (v := .tuple #[.slice none 0 0, .slice none 0 0, .int .i64 (0), .int .i64 ((u : Nat)), .int .i64 (er)]) (by simp [results, Tryz.results34]) rfl ?_
              exact ansW_bad HR.out (hbel.trans (b5.mono hbel.size))
            · have c1 : (bt l k != 95) = true := by simpa using h95
              have cD := fun W => digit10_any (bt l k) true W (by have := hnum.resolve_left h95; simp [this])
              generalize bt l k = c at ik c1 t36 t36n cD
              clear h95 hnum
              go_wp2_with (first
                | (go_at_call 56; (with_reducible refine (cD _).mono ?_); rintro e w' ⟨rfl, hw'⟩; have hw2' := hw'.symm; subst hw2'; clear hw')
                | (go_at_call 57; (with_reducible refine cN.mono ?_); rintro e w5 ⟨rfl, b5⟩))
              refine bodyPost_ret (v := .tuple #[.slice none 0 0, .slice none 0 0, .int .i64 (0), .int .i64 ((u : Nat)), .int .i64 (er)]) (by simp [results, Tryz.results34]) rfl ?_
              exact ansW_bad HR.out (hbel.trans (b5.mono hbel.size))
        · by_cases h36 : bt l k = 36
          · have HR : Hid (R = .inl (k, 37)) := by show _ = _; rw [← hr0]; exact scn_bad l f k _ _ _ hnum (fun e => by omega)
            have c1 : (bt l k != 95) = true := by simp; exact fun e => hnum (.inl e)
            have c2 : (bt l k != 36) = false := by simpa using h36
            have c3 : (bt l k == 36) = true := by simpa using h36
            generalize bt l k = c at *
            clear hr0 hnum h36
            go_wp2
            refine bodyPost_ret (v := .tuple #[.slice none 0 0, .slice none 0 0, .int .i64 (0), .int .i64 ((k : Nat)), .int .i64 (37)]) (by simp [results, Tryz.results34]) rfl ?_
            exact ansW_bad HR.out hbel
          · have HR : Hid (R = .inl (k, 37)) := by show _ = _; rw [← hr0]; exact scn_bad l f k _ _ _ hnum (fun e => h36 e.1)
            have c1 : (bt l k != 95) = true := by simp; exact fun e => hnum (.inl e)
            have c2 : (bt l k != 36) = true := by simpa using h36
            have cD := fun W => digit10_any (bt l k) false W (by simp; omega)
            generalize bt l k = c at *
            clear hr0 hnum h36
            go_wp2_with (go_at_call 56; (with_reducible refine (cD _).mono ?_); rintro e w' ⟨rfl, hw'⟩; have hw2' := hw'.symm; subst hw2'; clear hw')
            refine bodyPost_ret (v := .tuple #[.slice none 0 0, .slice none 0 0, .int .i64 (0), .int .i64 ((k : Nat)), .int .i64 (37)]) (by simp [results, Tryz.results34]) rfl ?_
            exact ansW_bad HR.out hbel
end Go.Proofs.YtppcfpiihkaopaaGreatDoor
