
/- PrimCommutes: both orders answer the same. -/

import Derived.Test.YtelcagfaflpolaaGreatPM

namespace Go.Proofs.YtelcagfaflpolaaGreat

open Go.RowKit

set_option linter.unusedVariables false

theorem eqB_comm (a b : List Int) : eqB a b = eqB b a := by
  unfold eqB
  by_cases h : a = b
  · subst h; rfl
  · simp [h]; exact fun e => h e.symm
theorem agrB_comm (a b : List Int) : agrB a b = agrB b a := by
  unfold agrB
  by_cases c1 : b.length < a.length
  · rw [if_pos c1, if_neg (by omega)]
  · rw [if_neg c1]
    by_cases c2 : a.length < b.length
    · rw [if_pos c2]
    · rw [if_neg c2]
      have e : a.length = b.length := by omega
      rw [e, List.take_length, ← e, List.take_length, eqB_comm]
theorem agrL_comm (a b : List Int) : agrL a b = agrL b a := by
  unfold agrL
  rw [agrB_comm b a]
  by_cases h : agrB a b = true
  · rw [if_pos h, if_pos h]
    by_cases c1 : b.length < a.length
    · rw [if_pos c1, if_neg (by omega)]
    · rw [if_neg c1]
      by_cases c2 : a.length < b.length
      · rw [if_pos c2]
      · rw [if_neg c2]
        have e : a.length = b.length := by omega
        have t : a = b := by
          unfold agrB at h
          rw [if_neg c1, e, List.take_length] at h
          simpa [eqB] using h
        rw [t]
  · rw [if_neg h, if_neg h]
theorem dd_comm (op : Int) (hE : ∀ a b, Nm.dE op a b = Nm.dE op b a) (hN : ∀ a b, Nm.dN op a b = Nm.dN op b a) (sx ax sy ay : List Int) :
    ddE op sx ax sy ay = ddE op sy ay sx ax ∧ ddS op sx ax sy ay = ddS op sy ay sx ax ∧ ddA op sx ax sy ay = ddA op sy ay sx ax := by
  have eL : dyL op sx ax sy ay = dyL op sy ay sx ax := by
    unfold dyL dyN
    rw [agrL_comm sx sy]
    apply List.map_congr_left
    intro i _
    unfold dyF dyB
    rw [agrL_comm sx sy, hN]
  have eR : dyR op sx ax sy ay = dyR op sy ay sx ax := by
    unfold dyR dyN
    rw [agrL_comm sx sy]
    apply List.map_congr_left
    intro i _
    unfold dyG dyB
    rw [agrL_comm sx sy, hE]
  have eE : ddE op sx ax sy ay = ddE op sy ay sx ax := by
    unfold ddE
    rw [eR, agrB_comm sx sy]
    by_cases c : mayA sx ax ≠ 0 ∨ mayA sy ay ≠ 0
    · rw [if_pos c, if_pos c.symm]
    · rw [if_neg c, if_neg (show ¬ (mayA sy ay ≠ 0 ∨ mayA sx ax ≠ 0) from fun q => c q.symm)]
  refine ⟨eE, ?_, ?_⟩
  · unfold ddS; rw [eE, agrL_comm sx sy]
  · unfold ddA; rw [eE, eL]
theorem num_comm (k : Nat) (hk : k < 43) (hc : pC k = true) (h : k ≠ 18) : (∀ a b, Nm.dE ((k : Int) + 1) a b = Nm.dE ((k : Int) + 1) b a) ∧ (∀ a b, Nm.dN ((k : Int) + 1) a b = Nm.dN ((k : Int) + 1) b a) ∧ pD k = .func (.func 67) #[] #[] ∧ pDb k = true ∧ pL k = 0 ∧ pG k = 0 := by
  have hs : k = 0 ∨ k = 2 ∨ k = 5 ∨ k = 6 ∨ k = 9 ∨ k = 10 ∨ k = 13 ∨ k = 14 ∨ k = 15 ∨ k = 16 := by
    have q : ∀ k : Fin 43, pC k.val = true → k.val ≠ 18 → (k.val = 0 ∨ k.val = 2 ∨ k.val = 5 ∨ k.val = 6 ∨ k.val = 9 ∨ k.val = 10 ∨ k.val = 13 ∨ k.val = 14 ∨ k.val = 15 ∨ k.val = 16) := by decide
    exact q ⟨k, hk⟩ hc h
  have bc : ∀ a b : Int, Nm.bitB a b = Nm.bitB b a := fun a b => by unfold Nm.bitB; cases (a == 0 || a == 1) <;> cases (b == 0 || b == 1) <;> simp_all [Bool.and_comm]
  rcases hs with rfl | rfl | rfl | rfl | rfl | rfl | rfl | rfl | rfl | rfl
  · have e1 : ∀ x y, Nm.dE (((0 : Nat) : Int) + 1) x y = Nm.ovr (x + y) := fun x y => by simp [Nm.dE]
    have e2 : ∀ x y, Nm.dN (((0 : Nat) : Int) + 1) x y = Nm.cut (x + y) := fun x y => by simp [Nm.dN]
    exact ⟨fun a b => by rw [e1, e1]; rw [Int.add_comm], fun a b => by rw [e2, e2]; rw [Int.add_comm], rfl, rfl, rfl, rfl⟩
  · have e1 : ∀ x y, Nm.dE (((2 : Nat) : Int) + 1) x y = Nm.ovr (x * y) := fun x y => by simp [Nm.dE]
    have e2 : ∀ x y, Nm.dN (((2 : Nat) : Int) + 1) x y = Nm.cut (x * y) := fun x y => by simp [Nm.dN]
    exact ⟨fun a b => by rw [e1, e1]; rw [Int.mul_comm], fun a b => by rw [e2, e2]; rw [Int.mul_comm], rfl, rfl, rfl, rfl⟩
  · have e1 : ∀ x y, Nm.dE (((5 : Nat) : Int) + 1) x y = 0 := fun x y => by simp [Nm.dE]
    have e2 : ∀ x y, Nm.dN (((5 : Nat) : Int) + 1) x y = min x y := fun x y => by simp [Nm.dN]
    exact ⟨fun a b => by rw [e1, e1], fun a b => by rw [e2, e2]; omega, rfl, rfl, rfl, rfl⟩
  · have e1 : ∀ x y, Nm.dE (((6 : Nat) : Int) + 1) x y = 0 := fun x y => by simp [Nm.dE]
    have e2 : ∀ x y, Nm.dN (((6 : Nat) : Int) + 1) x y = max x y := fun x y => by simp [Nm.dN]
    exact ⟨fun a b => by rw [e1, e1], fun a b => by rw [e2, e2]; omega, rfl, rfl, rfl, rfl⟩
  · have e1 : ∀ x y, Nm.dE (((9 : Nat) : Int) + 1) x y = 0 := fun x y => by simp [Nm.dE]
    have e2 : ∀ x y, Nm.dN (((9 : Nat) : Int) + 1) x y = Nm.tr (x == y) := fun x y => by simp [Nm.dN]
    exact ⟨fun a b => by rw [e1, e1], fun a b => by rw [e2, e2]; rw [Bool.beq_comm], rfl, rfl, rfl, rfl⟩
  · have e1 : ∀ x y, Nm.dE (((10 : Nat) : Int) + 1) x y = 0 := fun x y => by simp [Nm.dE]
    have e2 : ∀ x y, Nm.dN (((10 : Nat) : Int) + 1) x y = Nm.tr (x != y) := fun x y => by simp [Nm.dN]
    exact ⟨fun a b => by rw [e1, e1], fun a b => by rw [e2, e2]; simp only [bne]; rw [Bool.beq_comm], rfl, rfl, rfl, rfl⟩
  · have e1 : ∀ x y, Nm.dE (((13 : Nat) : Int) + 1) x y = Nm.ovr ((Nat.gcd x.natAbs y.natAbs : Nat)) := fun x y => by simp [Nm.dE]
    have e2 : ∀ x y, Nm.dN (((13 : Nat) : Int) + 1) x y = Nm.cut ((Nat.gcd x.natAbs y.natAbs : Nat)) := fun x y => by simp [Nm.dN]
    exact ⟨fun a b => by rw [e1, e1]; rw [Nat.gcd_comm], fun a b => by rw [e2, e2]; rw [Nat.gcd_comm], rfl, rfl, rfl, rfl⟩
  · have e1 : ∀ x y, Nm.dE (((14 : Nat) : Int) + 1) x y = Nm.ovr ((Nat.lcm x.natAbs y.natAbs : Nat)) := fun x y => by simp [Nm.dE]
    have e2 : ∀ x y, Nm.dN (((14 : Nat) : Int) + 1) x y = Nm.cut ((Nat.lcm x.natAbs y.natAbs : Nat)) := fun x y => by simp [Nm.dN]
    exact ⟨fun a b => by rw [e1, e1]; rw [Nat.lcm_comm], fun a b => by rw [e2, e2]; rw [Nat.lcm_comm], rfl, rfl, rfl, rfl⟩
  · have e1 : ∀ x y, Nm.dE (((15 : Nat) : Int) + 1) x y = Nm.bitE x y := fun x y => by simp [Nm.dE]
    have e2 : ∀ x y, Nm.dN (((15 : Nat) : Int) + 1) x y = Nm.norN x y := fun x y => by simp [Nm.dN]
    exact ⟨fun a b => by rw [e1, e1]; unfold Nm.bitE; rw [bc], fun a b => by rw [e2, e2]; unfold Nm.norN; rw [bc, Bool.and_comm], rfl, rfl, rfl, rfl⟩
  · have e1 : ∀ x y, Nm.dE (((16 : Nat) : Int) + 1) x y = Nm.bitE x y := fun x y => by simp [Nm.dE]
    have e2 : ∀ x y, Nm.dN (((16 : Nat) : Int) + 1) x y = Nm.nandN x y := fun x y => by simp [Nm.dN]
    exact ⟨fun a b => by rw [e1, e1]; unfold Nm.bitE; rw [bc], fun a b => by rw [e2, e2]; unfold Nm.nandN; rw [bc, Bool.or_comm], rfl, rfl, rfl, rfl⟩

theorem dyadP_match (xso xo : Option Addr) (xsn xsc xn xc : Nat) (so ao : Option Addr) (sn sc an ac : Nat) (sx ax sy ay : List Int) (w : World) (hsx : Rd w xso xsn sx) (ssx : Sl xso xsn xsc) (hax : Rd w xo xn ax) (sax : Sl xo xn xc) (hsy : Rd w so sn sy) (ssy : Sl so sn sc) (hay : Rd w ao an ay) (say : Sl ao an ac) (mx : mayA sx ax = 0) (my : mayA sy ay = 0) :
    Calls Tryz.prog 20 #[.int .i64 19, .agg #[.slice xso xsn xsc, .slice xo xn xc], .agg #[.slice so sn sc, .slice ao an ac]] w fun e w' => AnsP w 0 [] [if eqA sx ax sy ay then 1 else 0] e w' := by
  have lx := (mayF_zero (mayA_zero mx).1).2.1
  have ly := (mayF_zero (mayA_zero my).1).2.1
  rw [hsx.len] at lx
  rw [hsy.len] at ly
  refine dyadP_go xso xo xsn xsc xn xc so ao sn sc an ac sx ax sy ay w hsx hax hsy hay mx my 18 (by omega) rfl _ _ _ fun V b => ?_
  refine lift2_whole _ _ _ xso xo xsn xsc xn xc so ao sn sc an ac _ _ _ V rfl (show (xsn : Int) ≤ 64 by omega) (show (sn : Int) ≤ 64 by omega) fun U bU => ?_
  have bw := btw b bU b.size
  refine two_seek _ _ _ _ _ _ _ _ _ xso xo xsn xsc xn xc so ao sn sc an ac _ _ _ U fun T bT => ?_
  have bt := btw bw bT bw.size
  refine (dyadS_match xso xo so ao xsn xsc xn xc sn sc an ac sx ax sy ay (fun s a => s = [] ∧ a = [if eqA sx ax sy ay then 1 else 0]) 0 T (hsx.below bt (Nat.le_refl _)) (hax.below bt (Nat.le_refl _)) (hsy.below bt (Nat.le_refl _)) (hay.below bt (Nat.le_refl _)) mx my fun Y bY => ?_).mono fun e w' q => ansP_of_Q q
  have by' := btw bt bY bt.size
  exact match_any xso xo so ao xsn xsc xn xc sn sc an ac sx ax sy ay Y (hsx.below by' (Nat.le_refl _)) (hax.below by' (Nat.le_refl _)) (hsy.below by' (Nat.le_refl _)) (hay.below by' (Nat.le_refl _))
/-- Both orders. -/
theorem both_orders (xso xo : Option Addr) (xsn xsc xn xc : Nat) (so ao : Option Addr) (sn sc an ac : Nat) (sx ax sy ay : List Int) (w : World) (hsx : Rd w xso xsn sx) (ssx : Sl xso xsn xsc) (hax : Rd w xo xn ax) (sax : Sl xo xn xc) (hsy : Rd w so sn sy) (ssy : Sl so sn sc) (hay : Rd w ao an ay) (say : Sl ao an ac) (k : Nat) (hk : k < 43) (hc : pC k = true) : ∃ E S A,
    (∀ V, Below w.heap.size w V → Calls Tryz.prog 20 #[.int .i64 ((k : Int) + 1), .agg #[.slice xso xsn xsc, .slice xo xn xc], .agg #[.slice so sn sc, .slice ao an ac]] V fun e w' => AnsP V E S A e w') ∧
    (∀ V, Below w.heap.size w V → Calls Tryz.prog 20 #[.int .i64 ((k : Int) + 1), .agg #[.slice so sn sc, .slice ao an ac], .agg #[.slice xso xsn xsc, .slice xo xn xc]] V fun e w' => AnsP V E S A e w') := by
  by_cases mx : mayA sx ax = 0
  · by_cases my : mayA sy ay = 0
    · by_cases h18 : k = 18
      · subst h18
        refine ⟨0, [], [if eqA sx ax sy ay then 1 else 0], fun V b => ?_, fun V b => ?_⟩
        · exact dyadP_match xso xo xsn xsc xn xc so ao sn sc an ac sx ax sy ay V (hsx.below b (Nat.le_refl _)) ssx (hax.below b (Nat.le_refl _)) sax (hsy.below b (Nat.le_refl _)) ssy (hay.below b (Nat.le_refl _)) say mx my
        · have := dyadP_match so ao sn sc an ac xso xo xsn xsc xn xc sy ay sx ax V (hsy.below b (Nat.le_refl _)) ssy (hay.below b (Nat.le_refl _)) say (hsx.below b (Nat.le_refl _)) ssx (hax.below b (Nat.le_refl _)) sax my mx
          rw [show eqA sy ay sx ax = eqA sx ax sy ay by unfold eqA; rw [eqB_comm sy sx, eqB_comm ay ax]] at this
          exact this
      · obtain ⟨c1, c2, c3, c4, c5, c6⟩ := num_comm k hk hc h18
        obtain ⟨d1, d2, d3⟩ := dd_comm ((k : Int) + 1) c1 c2 sx ax sy ay
        refine ⟨_, _, _, fun V b => dyadP_atom xso xo xsn xsc xn xc so ao sn sc an ac sx ax sy ay V (hsx.below b (Nat.le_refl _)) ssx (hax.below b (Nat.le_refl _)) sax (hsy.below b (Nat.le_refl _)) ssy (hay.below b (Nat.le_refl _)) say mx my k hk c3 c4 c5 c6, fun V b => ?_⟩
        rw [d1, d2, d3]
        exact dyadP_atom so ao sn sc an ac xso xo xsn xsc xn xc sy ay sx ax V (hsy.below b (Nat.le_refl _)) ssy (hay.below b (Nat.le_refl _)) say (hsx.below b (Nat.le_refl _)) ssx (hax.below b (Nat.le_refl _)) sax my mx k hk c3 c4 c5 c6
    · exact ⟨1, [], [], fun V b => dyadP_bady xso xo xsn xsc xn xc so ao sn sc an ac sx ax sy ay V (hsx.below b (Nat.le_refl _)) (hax.below b (Nat.le_refl _)) (hsy.below b (Nat.le_refl _)) (hay.below b (Nat.le_refl _)) mx my _, fun V b => dyadP_badx so ao sn sc an ac xso xo xsn xsc xn xc sy ay sx ax V (hsy.below b (Nat.le_refl _)) (hay.below b (Nat.le_refl _)) (hsx.below b (Nat.le_refl _)) (hax.below b (Nat.le_refl _)) my _⟩
  · refine ⟨1, [], [], fun V b => dyadP_badx xso xo xsn xsc xn xc so ao sn sc an ac sx ax sy ay V (hsx.below b (Nat.le_refl _)) (hax.below b (Nat.le_refl _)) (hsy.below b (Nat.le_refl _)) (hay.below b (Nat.le_refl _)) mx _, fun V b => ?_⟩
    by_cases my : mayA sy ay = 0
    · exact dyadP_bady so ao sn sc an ac xso xo xsn xsc xn xc sy ay sx ax V (hsy.below b (Nat.le_refl _)) (hay.below b (Nat.le_refl _)) (hsx.below b (Nat.le_refl _)) (hax.below b (Nat.le_refl _)) my mx _
    · exact dyadP_badx so ao sn sc an ac xso xo xsn xsc xn xc sy ay sx ax V (hsy.below b (Nat.le_refl _)) (hay.below b (Nat.le_refl _)) (hsx.below b (Nat.le_refl _)) (hax.below b (Nat.le_refl _)) my _

set_option maxHeartbeats 4000000 in
theorem comm_no (xso xo : Option Addr) (xsn xsc xn xc : Nat) (so ao : Option Addr) (sn sc an ac : Nat) (op : Int) (w : World) 
    (hinf : ∀ W, Calls Tryz.prog 10 #[.int .i64 op] W fun e w' => e = .returned (.tuple #[.agg #[.string ⟨#[]⟩, .bool false, .bool false, .int .i64 0, .int .i64 0, .int .i64 0, .int .i64 0, .bool false, .bool false], .int .i64 1]) ∧ Below W.heap.size W w') :
    Calls Tryz.prog 6 #[.int .i64 op, .agg #[.slice xso xsn xsc, .slice xo xn xc], .agg #[.slice so sn sc, .slice ao an ac]] w fun e w' => e = .returned (.bool true) ∧ Below w.heap.size w w' := by
  have b1 := box_below w (.cells #[.slice xso xsn xsc, .slice xo xn xc] 36)
  have b2 := btw b1 (box_below (w.alloc (.cells #[.slice xso xsn xsc, .slice xo xn xc] 36)) (.cells #[.slice so sn sc, .slice ao an ac] 36)) b1.size
  have n2 := allocNew (w.alloc (.cells #[.slice xso xsn xsc, .slice xo xn xc] 36)) (.cells #[.slice so sn sc, .slice ao an ac] 36)
  have n1 := ((box_below (w.alloc (.cells #[.slice xso xsn xsc, .slice xo xn xc] 36)) (.cells #[.slice so sn sc, .slice ao an ac] 36)).block w.heap.size (by simp)).trans (allocNew w (.cells #[.slice xso xsn xsc, .slice xo xn xc] 36))
  rw [World.size_alloc] at n2
  clear b1
  have hbg := begun9_any ((w.alloc (.cells #[.slice xso xsn xsc, .slice xo xn xc] 36)).alloc (.cells #[.slice so sn sc, .slice ao an ac] 36))
  go_enter Tryz.func6, Tryz.ntmps6
  go_wp2_with (first
    | (go_at_call 8; (with_reducible refine hbg.mono ?_); rintro e w3 ⟨rfl, k3⟩
       have b3 := btw b2 k3 b2.size
       have s3 := k3.size
       rw [World.size_alloc, World.size_alloc] at s3
       have m2 := (k3.block (w.heap.size + 1) (by simp)).trans n2
       have m1 := (k3.block w.heap.size (by simp <;> omega)).trans n1
       clear n1 n2 k3 hbg)
    | (go_at_call 10; (with_reducible refine (hinf _).mono ?_); rintro e w4 ⟨rfl, k4⟩
       have k5 := btw k4 (box_below w4 (.cells #[.string ⟨#[]⟩, .bool false, .bool false, .int .i64 0, .int .i64 0, .int .i64 0, .int .i64 0, .bool false, .bool false] 27)) k4.size
       have b5 := btw b3 k5 b3.size
       have s5 := k5.size
       have p2 := (k5.block (w.heap.size + 1) (by omega)).trans m2
       have p1 := (k5.block w.heap.size (by omega)).trans m1
       obtain ⟨x0, x1, _, _⟩ := box2 p1
       obtain ⟨y0, y1, _, _⟩ := box2 p2
       obtain ⟨⟨_, _, _, _, _, _, _, _, ic⟩, _⟩ := bx9 (allocNew w4 (.cells #[.string ⟨#[]⟩, .bool false, .bool false, .int .i64 0, .int .i64 0, .int .i64 0, .int .i64 0, .bool false, .bool false] 27))
       clear m1 m2 hinf))
  go_ret
  exact ⟨rfl, b5⟩

set_option maxHeartbeats 4000000 in
theorem comm_free (xso xo : Option Addr) (xsn xsc xn xc : Nat) (so ao : Option Addr) (sn sc an ac : Nat) (op : Int) (w : World) (k : Nat) (sp : ByteArray) (mb db : Bool) (r l g i : Int) (h : Bool)
    (hinf : ∀ W, Calls Tryz.prog 10 #[.int .i64 ((k : Int) + 1)] W fun e w' => e = .returned (.tuple #[.agg #[.string sp, .bool mb, .bool db, .int .i64 r, .int .i64 l, .int .i64 g, .int .i64 i, .bool h, .bool false], .int .i64 0]) ∧ Below W.heap.size W w') :
    Calls Tryz.prog 6 #[.int .i64 ((k : Int) + 1), .agg #[.slice xso xsn xsc, .slice xo xn xc], .agg #[.slice so sn sc, .slice ao an ac]] w fun e w' => e = .returned (.bool true) ∧ Below w.heap.size w w' := by
  have b1 := box_below w (.cells #[.slice xso xsn xsc, .slice xo xn xc] 36)
  have b2 := btw b1 (box_below (w.alloc (.cells #[.slice xso xsn xsc, .slice xo xn xc] 36)) (.cells #[.slice so sn sc, .slice ao an ac] 36)) b1.size
  have n2 := allocNew (w.alloc (.cells #[.slice xso xsn xsc, .slice xo xn xc] 36)) (.cells #[.slice so sn sc, .slice ao an ac] 36)
  have n1 := ((box_below (w.alloc (.cells #[.slice xso xsn xsc, .slice xo xn xc] 36)) (.cells #[.slice so sn sc, .slice ao an ac] 36)).block w.heap.size (by simp)).trans (allocNew w (.cells #[.slice xso xsn xsc, .slice xo xn xc] 36))
  rw [World.size_alloc] at n2
  clear b1
  have hbg := begun9_any ((w.alloc (.cells #[.slice xso xsn xsc, .slice xo xn xc] 36)).alloc (.cells #[.slice so sn sc, .slice ao an ac] 36))
  go_enter Tryz.func6, Tryz.ntmps6
  go_wp2_with (first
    | (go_at_call 8; (with_reducible refine hbg.mono ?_); rintro e w3 ⟨rfl, k3⟩
       have b3 := btw b2 k3 b2.size
       have s3 := k3.size
       rw [World.size_alloc, World.size_alloc] at s3
       have m2 := (k3.block (w.heap.size + 1) (by simp)).trans n2
       have m1 := (k3.block w.heap.size (by simp <;> omega)).trans n1
       clear n1 n2 k3 hbg)
    | (go_at_call 10; (with_reducible refine (hinf _).mono ?_); rintro e w4 ⟨rfl, k4⟩
       have k5 := btw k4 (box_below w4 (.cells #[.string sp, .bool mb, .bool db, .int .i64 r, .int .i64 l, .int .i64 g, .int .i64 i, .bool h, .bool false] 27)) k4.size
       have b5 := btw b3 k5 b3.size
       have s5 := k5.size
       have p2 := (k5.block (w.heap.size + 1) (by omega)).trans m2
       have p1 := (k5.block w.heap.size (by omega)).trans m1
       obtain ⟨x0, x1, _, _⟩ := box2 p1
       obtain ⟨y0, y1, _, _⟩ := box2 p2
       obtain ⟨⟨_, _, _, _, _, _, _, _, ic⟩, _⟩ := bx9 (allocNew w4 (.cells #[.string sp, .bool mb, .bool db, .int .i64 r, .int .i64 l, .int .i64 g, .int .i64 i, .bool h, .bool false] 27))
       clear m1 m2 hinf))
  go_ret
  exact ⟨rfl, b5⟩

set_option maxHeartbeats 4000000 in
theorem comm_yes (xso xo : Option Addr) (xsn xsc xn xc : Nat) (so ao : Option Addr) (sn sc an ac : Nat) (op : Int) (w : World) (k : Nat) (sp : ByteArray) (mb db : Bool) (r l g i : Int) (h : Bool) (E : Int) (S A : List Int)
    (hxy : ∀ V, Below w.heap.size w V → Calls Tryz.prog 20 #[.int .i64 ((k : Int) + 1), .agg #[.slice xso xsn xsc, .slice xo xn xc], .agg #[.slice so sn sc, .slice ao an ac]] V fun e w' => AnsP V E S A e w')
    (hyx : ∀ V, Below w.heap.size w V → Calls Tryz.prog 20 #[.int .i64 ((k : Int) + 1), .agg #[.slice so sn sc, .slice ao an ac], .agg #[.slice xso xsn xsc, .slice xo xn xc]] V fun e w' => AnsP V E S A e w')
    (hinf : ∀ W, Calls Tryz.prog 10 #[.int .i64 ((k : Int) + 1)] W fun e w' => e = .returned (.tuple #[.agg #[.string sp, .bool mb, .bool db, .int .i64 r, .int .i64 l, .int .i64 g, .int .i64 i, .bool h, .bool true], .int .i64 0]) ∧ Below W.heap.size W w') :
    Calls Tryz.prog 6 #[.int .i64 ((k : Int) + 1), .agg #[.slice xso xsn xsc, .slice xo xn xc], .agg #[.slice so sn sc, .slice ao an ac]] w fun e w' => e = .returned (.bool true) ∧ Below w.heap.size w w' := by
  have b1 := box_below w (.cells #[.slice xso xsn xsc, .slice xo xn xc] 36)
  have b2 := btw b1 (box_below (w.alloc (.cells #[.slice xso xsn xsc, .slice xo xn xc] 36)) (.cells #[.slice so sn sc, .slice ao an ac] 36)) b1.size
  have n2 := allocNew (w.alloc (.cells #[.slice xso xsn xsc, .slice xo xn xc] 36)) (.cells #[.slice so sn sc, .slice ao an ac] 36)
  have n1 := ((box_below (w.alloc (.cells #[.slice xso xsn xsc, .slice xo xn xc] 36)) (.cells #[.slice so sn sc, .slice ao an ac] 36)).block w.heap.size (by simp)).trans (allocNew w (.cells #[.slice xso xsn xsc, .slice xo xn xc] 36))
  rw [World.size_alloc] at n2
  clear b1
  have hbg := begun9_any ((w.alloc (.cells #[.slice xso xsn xsc, .slice xo xn xc] 36)).alloc (.cells #[.slice so sn sc, .slice ao an ac] 36))
  go_enter Tryz.func6, Tryz.ntmps6
  go_wp2_with (first
    | (go_at_call 8; (with_reducible refine hbg.mono ?_); rintro e w3 ⟨rfl, k3⟩
       have b3 := btw b2 k3 b2.size
       have s3 := k3.size
       rw [World.size_alloc, World.size_alloc] at s3
       have m2 := (k3.block (w.heap.size + 1) (by simp)).trans n2
       have m1 := (k3.block w.heap.size (by simp <;> omega)).trans n1
       clear n1 n2 k3 hbg)
    | (go_at_call 10; (with_reducible refine (hinf _).mono ?_); rintro e w4 ⟨rfl, k4⟩
       have k5 := btw k4 (box_below w4 (.cells #[.string sp, .bool mb, .bool db, .int .i64 r, .int .i64 l, .int .i64 g, .int .i64 i, .bool h, .bool true] 27)) k4.size
       have b5 := btw b3 k5 b3.size
       have s5 := k5.size
       have p2 := (k5.block (w.heap.size + 1) (by omega)).trans m2
       have p1 := (k5.block w.heap.size (by omega)).trans m1
       obtain ⟨x0, x1, _, _⟩ := box2 p1
       obtain ⟨y0, y1, _, _⟩ := box2 p2
       obtain ⟨⟨_, _, _, _, _, _, _, _, ic⟩, _⟩ := bx9 (allocNew w4 (.cells #[.string sp, .bool mb, .bool db, .int .i64 r, .int .i64 l, .int .i64 g, .int .i64 i, .bool h, .bool true] 27))
       clear m1 m2 hinf)
    | (go_at_call 20; (with_reducible refine (hxy _ b5).mono ?_); rintro e w6 ⟨o1, n1, c1, o2, n2, c2, rfl, f1, f2, k6⟩
       have k7 := btw k6 (box_below w6 (.cells #[.slice o1 n1 c1, .slice o2 n2 c2] 36)) k6.size
       have X1 := bv_new (c1 := c1) (c2 := c2) f1.rd f2.rd
       have b7 := btw b5 k7 b5.size
       have s7 := k7.size
       have q2 := (k7.block (w.heap.size + 1) (by omega)).trans p2
       have q1 := (k7.block w.heap.size (by omega)).trans p1
       clear x0 x1 y0 y1
       obtain ⟨x0, x1, _, _⟩ := box2 q1
       obtain ⟨y0, y1, _, _⟩ := box2 q2
       clear p1 p2 hxy)
    | (go_at_call 20; (with_reducible refine (hyx _ b7).mono ?_); rintro e w8 ⟨u1, v1, d1, u2, v2, d2, rfl, g1, g2, k8⟩
       have kb := box_below w8 (.cells #[.slice u1 v1 d1, .slice u2 v2 d2] 36)
       have k9 := btw k8 kb k8.size
       have b9 := btw b7 k9 b7.size
       have X3 := X1.below k9
       have X4 := bv_new (c1 := d1) (c2 := d2) g1.rd g2.rd
       obtain ⟨z0, z1⟩ := X3.c
       obtain ⟨z2, z3⟩ := X4.c
       have heq := eqT9 _ _ _ _ _ _ c1 _ c2 _ d1 _ d2 _ _ X3.s X3.a X4.s X4.a
       clear hyx)
    | (go_at_call 18; (with_reducible refine heq.mono ?_); rintro e w10 ⟨rfl, k10⟩
       have b10 := btw b9 k10 b9.size
       clear heq))
  go_ret
  exact ⟨rfl, b10⟩

theorem comm_walk (xso xo : Option Addr) (xsn xsc xn xc : Nat) (so ao : Option Addr) (sn sc an ac : Nat) (sx ax sy ay : List Int) (w : World) (hsx : Rd w xso xsn sx) (ssx : Sl xso xsn xsc) (hax : Rd w xo xn ax) (sax : Sl xo xn xc) (hsy : Rd w so sn sy) (ssy : Sl so sn sc) (hay : Rd w ao an ay) (say : Sl ao an ac) (op : Int) :
    Calls Tryz.prog 6 #[.int .i64 op, .agg #[.slice xso xsn xsc, .slice xo xn xc], .agg #[.slice so sn sc, .slice ao an ac]] w fun e w' => e = .returned (.bool true) ∧ Below w.heap.size w w' := by
  by_cases ho : op < 1 ∨ 43 < op
  · exact comm_no xso xo xsn xsc xn xc so ao sn sc an ac op w (fun W => info_no op W ho)
  · obtain ⟨k, rfl⟩ : ∃ k : Nat, op = (k : Int) + 1 := ⟨(op - 1).toNat, by omega⟩
    have hk : k < 43 := by omega
    have hi := info_yes k hk
    cases hc : pC k
    · rw [hc] at hi
      exact comm_free xso xo xsn xsc xn xc so ao sn sc an ac 0 w k _ _ _ _ _ _ _ _ hi
    · rw [hc] at hi
      obtain ⟨E, S, A, h1, h2⟩ := both_orders xso xo xsn xsc xn xc so ao sn sc an ac sx ax sy ay w hsx ssx hax sax hsy ssy hay say k hk hc
      exact comm_yes xso xo xsn xsc xn xc so ao sn sc an ac 0 w k _ _ _ _ _ _ _ _ E S A h1 h2 hi
end Go.Proofs.YtelcagfaflpolaaGreat
