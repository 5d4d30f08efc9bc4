
/- PrimIdentity: op by op. -/

import Derived.Test.YtelcagfaflpolaaGreatPQ

namespace Go.Proofs.YtelcagfaflpolaaGreat

open Go.RowKit

set_option linter.unusedVariables false

theorem mayA_len {sh a b : List Int} (h : mayA sh a = 0) (e : b.length = a.length) : mayA sh b = 0 := by
  rw [← h]; unfold mayA; rw [e]
theorem nth_repl {n j : Nat} {e : Int} (h : j < n) : nth (List.replicate n e) j = e := by
  rw [nth_lt (by simpa using h)]; simp

theorem ident_1 (so ao : Option Addr) (sn sc an ac : Nat) (sy ay : List Int) (w : World) (hsy : Rd w so sn sy) (ssy : Sl so sn sc) (hay : Rd w ao an ay) (say : Sl ao an ac) (my : mayA sy ay = 0) :
    Calls Tryz.prog 7 #[.int .i64 1, .agg #[.slice so sn sc, .slice ao an ac]] w fun e w' => e = .returned (.bool true) ∧ Below w.heap.size w w' := by
  have mf := (mayA_zero my).1
  have pl := (mayA_zero my).2
  have bd := prF_bd mf
  have eS : filS sy = sy := if_pos mf
  have eA : filA sy 0 = List.replicate ay.length 0 := by
    unfold filA
    rw [if_pos mf]
    have : (pr sy).toNat = ay.length := by omega
    rw [this]
  have m1 : mayA sy (ay.map (fun z => z)) = 0 := mayA_len my (by simp)
  have m2 : mayA sy (List.replicate ay.length 0) = 0 := mayA_len my (by simp)
  have nb := hay.num
  have ln := hay.len
  obtain ⟨d1, d2, d3⟩ := dd_same 1 sy (List.replicate ay.length 0) (ay.map (fun z => z)) (ay.map (fun z => z)) m2 m1 (by decide) (by simp) (fun j hj => by
    have hj' : j < ay.length := by simpa using hj
    rw [nth_repl hj', nth_maps hj']
    exact idn_1 (nth ay j) (nb j (by omega)).1 (nb j (by omega)).2)
  have htu : ∀ V, Rd V so sn sy → Rd V ao an ay → _ := fun V h1 h2 => turned_same 1 so ao sn sc an ac sy ay V h1 ssy h2 say (by decide)
  refine ident_left so ao sn sc an ac sy ay w hsy ssy hay say 0 0 _ _ _ _ _ _ 0 _ my mf (ay.map (fun z => z)) (List.replicate ay.length 0) eS eA (by omega) (by omega) htu ?_ rfl rfl rfl rfl rfl (info_yes 0 (by omega))
  intro V b xso xo xsn xsc xn xc uso uo usn usc un uc a1 a2 a3 a4 a5 a6 a7 a8
  have := dyadP_atom xso xo xsn xsc xn xc uso uo usn usc un uc sy (List.replicate ay.length 0) sy (ay.map (fun z => z)) V a1 a2 a3 a4 a5 a6 a7 a8 m2 m1 0 (by omega) rfl rfl rfl rfl
  rw [show (((0 : Nat) : Int) + 1) = 1 from rfl, d1, d2, d3] at this
  exact this

theorem ident_2 (so ao : Option Addr) (sn sc an ac : Nat) (sy ay : List Int) (w : World) (hsy : Rd w so sn sy) (ssy : Sl so sn sc) (hay : Rd w ao an ay) (say : Sl ao an ac) (my : mayA sy ay = 0) :
    Calls Tryz.prog 7 #[.int .i64 2, .agg #[.slice so sn sc, .slice ao an ac]] w fun e w' => e = .returned (.bool true) ∧ Below w.heap.size w w' := by
  have mf := (mayA_zero my).1
  have pl := (mayA_zero my).2
  have bd := prF_bd mf
  have eS : filS sy = sy := if_pos mf
  have eA : filA sy 0 = List.replicate ay.length 0 := by
    unfold filA
    rw [if_pos mf]
    have : (pr sy).toNat = ay.length := by omega
    rw [this]
  have m1 : mayA sy (ay.map (fun z => z)) = 0 := mayA_len my (by simp)
  have m2 : mayA sy (List.replicate ay.length 0) = 0 := mayA_len my (by simp)
  have nb := hay.num
  have ln := hay.len
  obtain ⟨d1, d2, d3⟩ := dd_same 2 sy (ay.map (fun z => z)) (List.replicate ay.length 0) (ay.map (fun z => z)) m1 m2 (by decide) (by simp) (fun j hj => by
    have hj' : j < ay.length := by simpa using hj
    rw [nth_repl hj', nth_maps hj']
    exact idn_2 (nth ay j) (nb j (by omega)).1 (nb j (by omega)).2)
  have htu : ∀ V, Rd V so sn sy → Rd V ao an ay → _ := fun V h1 h2 => turned_same 2 so ao sn sc an ac sy ay V h1 ssy h2 say (by decide)
  refine ident_right2 so ao sn sc an ac sy ay w hsy ssy hay say 0 _ _ _ _ _ _ 0 _ my mf (ay.map (fun z => z)) (List.replicate ay.length 0) eS eA (by omega) (by omega) htu ?_ (info_yes 1 (by omega))
  intro V b xso xo xsn xsc xn xc uso uo usn usc un uc a1 a2 a3 a4 a5 a6 a7 a8
  have := dyadP_atom xso xo xsn xsc xn xc uso uo usn usc un uc sy (ay.map (fun z => z)) sy (List.replicate ay.length 0) V a1 a2 a3 a4 a5 a6 a7 a8 m1 m2 1 (by omega) rfl rfl rfl rfl
  rw [show (((1 : Nat) : Int) + 1) = 2 from rfl, d1, d2, d3] at this
  exact this

theorem ident_3 (so ao : Option Addr) (sn sc an ac : Nat) (sy ay : List Int) (w : World) (hsy : Rd w so sn sy) (ssy : Sl so sn sc) (hay : Rd w ao an ay) (say : Sl ao an ac) (my : mayA sy ay = 0) :
    Calls Tryz.prog 7 #[.int .i64 3, .agg #[.slice so sn sc, .slice ao an ac]] w fun e w' => e = .returned (.bool true) ∧ Below w.heap.size w w' := by
  have mf := (mayA_zero my).1
  have pl := (mayA_zero my).2
  have bd := prF_bd mf
  have eS : filS sy = sy := if_pos mf
  have eA : filA sy 1 = List.replicate ay.length 1 := by
    unfold filA
    rw [if_pos mf]
    have : (pr sy).toNat = ay.length := by omega
    rw [this]
  have m1 : mayA sy (ay.map (fun z => z)) = 0 := mayA_len my (by simp)
  have m2 : mayA sy (List.replicate ay.length 1) = 0 := mayA_len my (by simp)
  have nb := hay.num
  have ln := hay.len
  obtain ⟨d1, d2, d3⟩ := dd_same 3 sy (List.replicate ay.length 1) (ay.map (fun z => z)) (ay.map (fun z => z)) m2 m1 (by decide) (by simp) (fun j hj => by
    have hj' : j < ay.length := by simpa using hj
    rw [nth_repl hj', nth_maps hj']
    exact idn_3 (nth ay j) (nb j (by omega)).1 (nb j (by omega)).2)
  have htu : ∀ V, Rd V so sn sy → Rd V ao an ay → _ := fun V h1 h2 => turned_same 3 so ao sn sc an ac sy ay V h1 ssy h2 say (by decide)
  refine ident_left so ao sn sc an ac sy ay w hsy ssy hay say 0 2 _ _ _ _ _ _ 1 _ my mf (ay.map (fun z => z)) (List.replicate ay.length 1) eS eA (by omega) (by omega) htu ?_ rfl rfl rfl rfl rfl (info_yes 2 (by omega))
  intro V b xso xo xsn xsc xn xc uso uo usn usc un uc a1 a2 a3 a4 a5 a6 a7 a8
  have := dyadP_atom xso xo xsn xsc xn xc uso uo usn usc un uc sy (List.replicate ay.length 1) sy (ay.map (fun z => z)) V a1 a2 a3 a4 a5 a6 a7 a8 m2 m1 2 (by omega) rfl rfl rfl rfl
  rw [show (((2 : Nat) : Int) + 1) = 3 from rfl, d1, d2, d3] at this
  exact this

theorem ident_4 (so ao : Option Addr) (sn sc an ac : Nat) (sy ay : List Int) (w : World) (hsy : Rd w so sn sy) (ssy : Sl so sn sc) (hay : Rd w ao an ay) (say : Sl ao an ac) (my : mayA sy ay = 0) :
    Calls Tryz.prog 7 #[.int .i64 4, .agg #[.slice so sn sc, .slice ao an ac]] w fun e w' => e = .returned (.bool true) ∧ Below w.heap.size w w' := by
  have mf := (mayA_zero my).1
  have pl := (mayA_zero my).2
  have bd := prF_bd mf
  have eS : filS sy = sy := if_pos mf
  have eA : filA sy 1 = List.replicate ay.length 1 := by
    unfold filA
    rw [if_pos mf]
    have : (pr sy).toNat = ay.length := by omega
    rw [this]
  have m1 : mayA sy (ay.map (fun z => z)) = 0 := mayA_len my (by simp)
  have m2 : mayA sy (List.replicate ay.length 1) = 0 := mayA_len my (by simp)
  have nb := hay.num
  have ln := hay.len
  obtain ⟨d1, d2, d3⟩ := dd_same 4 sy (ay.map (fun z => z)) (List.replicate ay.length 1) (ay.map (fun z => z)) m1 m2 (by decide) (by simp) (fun j hj => by
    have hj' : j < ay.length := by simpa using hj
    rw [nth_repl hj', nth_maps hj']
    exact idn_4 (nth ay j) (nb j (by omega)).1 (nb j (by omega)).2)
  have htu : ∀ V, Rd V so sn sy → Rd V ao an ay → _ := fun V h1 h2 => turned_same 4 so ao sn sc an ac sy ay V h1 ssy h2 say (by decide)
  refine ident_right4 so ao sn sc an ac sy ay w hsy ssy hay say 0 _ _ _ _ _ _ 1 _ my mf (ay.map (fun z => z)) (List.replicate ay.length 1) eS eA (by omega) (by omega) htu ?_ (info_yes 3 (by omega))
  intro V b xso xo xsn xsc xn xc uso uo usn usc un uc a1 a2 a3 a4 a5 a6 a7 a8
  have := dyadP_atom xso xo xsn xsc xn xc uso uo usn usc un uc sy (ay.map (fun z => z)) sy (List.replicate ay.length 1) V a1 a2 a3 a4 a5 a6 a7 a8 m1 m2 3 (by omega) rfl rfl rfl rfl
  rw [show (((3 : Nat) : Int) + 1) = 4 from rfl, d1, d2, d3] at this
  exact this

theorem ident_5 (so ao : Option Addr) (sn sc an ac : Nat) (sy ay : List Int) (w : World) (hsy : Rd w so sn sy) (ssy : Sl so sn sc) (hay : Rd w ao an ay) (say : Sl ao an ac) (my : mayA sy ay = 0) :
    Calls Tryz.prog 7 #[.int .i64 5, .agg #[.slice so sn sc, .slice ao an ac]] w fun e w' => e = .returned (.bool true) ∧ Below w.heap.size w w' := by
  have mf := (mayA_zero my).1
  have pl := (mayA_zero my).2
  have bd := prF_bd mf
  have eS : filS sy = sy := if_pos mf
  have eA : filA sy 0 = List.replicate ay.length 0 := by
    unfold filA
    rw [if_pos mf]
    have : (pr sy).toNat = ay.length := by omega
    rw [this]
  have m1 : mayA sy (ay.map (fun z => z)) = 0 := mayA_len my (by simp)
  have m2 : mayA sy (List.replicate ay.length 0) = 0 := mayA_len my (by simp)
  have nb := hay.num
  have ln := hay.len
  obtain ⟨d1, d2, d3⟩ := dd_same 5 sy (List.replicate ay.length 0) (ay.map (fun z => z)) (ay.map (fun z => z)) m2 m1 (by decide) (by simp) (fun j hj => by
    have hj' : j < ay.length := by simpa using hj
    rw [nth_repl hj', nth_maps hj']
    exact idn_5 (nth ay j) (nb j (by omega)).1 (nb j (by omega)).2)
  have htu : ∀ V, Rd V so sn sy → Rd V ao an ay → _ := fun V h1 h2 => turned_same 5 so ao sn sc an ac sy ay V h1 ssy h2 say (by decide)
  refine ident_left so ao sn sc an ac sy ay w hsy ssy hay say 0 4 _ _ _ _ _ _ 0 _ my mf (ay.map (fun z => z)) (List.replicate ay.length 0) eS eA (by omega) (by omega) htu ?_ rfl rfl rfl rfl rfl (info_yes 4 (by omega))
  intro V b xso xo xsn xsc xn xc uso uo usn usc un uc a1 a2 a3 a4 a5 a6 a7 a8
  have := dyadP_atom xso xo xsn xsc xn xc uso uo usn usc un uc sy (List.replicate ay.length 0) sy (ay.map (fun z => z)) V a1 a2 a3 a4 a5 a6 a7 a8 m2 m1 4 (by omega) rfl rfl rfl rfl
  rw [show (((4 : Nat) : Int) + 1) = 5 from rfl, d1, d2, d3] at this
  exact this

theorem ident_6 (so ao : Option Addr) (sn sc an ac : Nat) (sy ay : List Int) (w : World) (hsy : Rd w so sn sy) (ssy : Sl so sn sc) (hay : Rd w ao an ay) (say : Sl ao an ac) (my : mayA sy ay = 0) :
    Calls Tryz.prog 7 #[.int .i64 6, .agg #[.slice so sn sc, .slice ao an ac]] w fun e w' => e = .returned (.bool true) ∧ Below w.heap.size w w' := by
  have mf := (mayA_zero my).1
  have pl := (mayA_zero my).2
  have bd := prF_bd mf
  have eS : filS sy = sy := if_pos mf
  have eA : filA sy 9223372036854775807 = List.replicate ay.length 9223372036854775807 := by
    unfold filA
    rw [if_pos mf]
    have : (pr sy).toNat = ay.length := by omega
    rw [this]
  have m1 : mayA sy (ay.map (fun z => z)) = 0 := mayA_len my (by simp)
  have m2 : mayA sy (List.replicate ay.length 9223372036854775807) = 0 := mayA_len my (by simp)
  have nb := hay.num
  have ln := hay.len
  obtain ⟨d1, d2, d3⟩ := dd_same 6 sy (List.replicate ay.length 9223372036854775807) (ay.map (fun z => z)) (ay.map (fun z => z)) m2 m1 (by decide) (by simp) (fun j hj => by
    have hj' : j < ay.length := by simpa using hj
    rw [nth_repl hj', nth_maps hj']
    exact idn_6 (nth ay j) (nb j (by omega)).1 (nb j (by omega)).2)
  have htu : ∀ V, Rd V so sn sy → Rd V ao an ay → _ := fun V h1 h2 => turned_same 6 so ao sn sc an ac sy ay V h1 ssy h2 say (by decide)
  refine ident_left so ao sn sc an ac sy ay w hsy ssy hay say 0 5 _ _ _ _ _ _ 9223372036854775807 _ my mf (ay.map (fun z => z)) (List.replicate ay.length 9223372036854775807) eS eA (by omega) (by omega) htu ?_ rfl rfl rfl rfl rfl (info_yes 5 (by omega))
  intro V b xso xo xsn xsc xn xc uso uo usn usc un uc a1 a2 a3 a4 a5 a6 a7 a8
  have := dyadP_atom xso xo xsn xsc xn xc uso uo usn usc un uc sy (List.replicate ay.length 9223372036854775807) sy (ay.map (fun z => z)) V a1 a2 a3 a4 a5 a6 a7 a8 m2 m1 5 (by omega) rfl rfl rfl rfl
  rw [show (((5 : Nat) : Int) + 1) = 6 from rfl, d1, d2, d3] at this
  exact this

theorem ident_7 (so ao : Option Addr) (sn sc an ac : Nat) (sy ay : List Int) (w : World) (hsy : Rd w so sn sy) (ssy : Sl so sn sc) (hay : Rd w ao an ay) (say : Sl ao an ac) (my : mayA sy ay = 0) :
    Calls Tryz.prog 7 #[.int .i64 7, .agg #[.slice so sn sc, .slice ao an ac]] w fun e w' => e = .returned (.bool true) ∧ Below w.heap.size w w' := by
  have mf := (mayA_zero my).1
  have pl := (mayA_zero my).2
  have bd := prF_bd mf
  have eS : filS sy = sy := if_pos mf
  have eA : filA sy (-9223372036854775808) = List.replicate ay.length (-9223372036854775808) := by
    unfold filA
    rw [if_pos mf]
    have : (pr sy).toNat = ay.length := by omega
    rw [this]
  have m1 : mayA sy (ay.map (fun z => z)) = 0 := mayA_len my (by simp)
  have m2 : mayA sy (List.replicate ay.length (-9223372036854775808)) = 0 := mayA_len my (by simp)
  have nb := hay.num
  have ln := hay.len
  obtain ⟨d1, d2, d3⟩ := dd_same 7 sy (List.replicate ay.length (-9223372036854775808)) (ay.map (fun z => z)) (ay.map (fun z => z)) m2 m1 (by decide) (by simp) (fun j hj => by
    have hj' : j < ay.length := by simpa using hj
    rw [nth_repl hj', nth_maps hj']
    exact idn_7 (nth ay j) (nb j (by omega)).1 (nb j (by omega)).2)
  have htu : ∀ V, Rd V so sn sy → Rd V ao an ay → _ := fun V h1 h2 => turned_same 7 so ao sn sc an ac sy ay V h1 ssy h2 say (by decide)
  refine ident_left so ao sn sc an ac sy ay w hsy ssy hay say 0 6 _ _ _ _ _ _ (-9223372036854775808) _ my mf (ay.map (fun z => z)) (List.replicate ay.length (-9223372036854775808)) eS eA (by omega) (by omega) htu ?_ rfl rfl rfl rfl rfl (info_yes 6 (by omega))
  intro V b xso xo xsn xsc xn xc uso uo usn usc un uc a1 a2 a3 a4 a5 a6 a7 a8
  have := dyadP_atom xso xo xsn xsc xn xc uso uo usn usc un uc sy (List.replicate ay.length (-9223372036854775808)) sy (ay.map (fun z => z)) V a1 a2 a3 a4 a5 a6 a7 a8 m2 m1 6 (by omega) rfl rfl rfl rfl
  rw [show (((6 : Nat) : Int) + 1) = 7 from rfl, d1, d2, d3] at this
  exact this

theorem ident_8 (so ao : Option Addr) (sn sc an ac : Nat) (sy ay : List Int) (w : World) (hsy : Rd w so sn sy) (ssy : Sl so sn sc) (hay : Rd w ao an ay) (say : Sl ao an ac) (my : mayA sy ay = 0) :
    Calls Tryz.prog 7 #[.int .i64 8, .agg #[.slice so sn sc, .slice ao an ac]] w fun e w' => e = .returned (.bool true) ∧ Below w.heap.size w w' := by
  have mf := (mayA_zero my).1
  have pl := (mayA_zero my).2
  have bd := prF_bd mf
  have eS : filS sy = sy := if_pos mf
  have eA : filA sy 0 = List.replicate ay.length 0 := by
    unfold filA
    rw [if_pos mf]
    have : (pr sy).toNat = ay.length := by omega
    rw [this]
  have m1 : mayA sy (ay.map (fun z => z % 2)) = 0 := mayA_len my (by simp)
  have m2 : mayA sy (List.replicate ay.length 0) = 0 := mayA_len my (by simp)
  have nb := hay.num
  have ln := hay.len
  obtain ⟨d1, d2, d3⟩ := dd_same 8 sy (List.replicate ay.length 0) (ay.map (fun z => z % 2)) (ay.map (fun z => z % 2)) m2 m1 (by decide) (by simp) (fun j hj => by
    have hj' : j < ay.length := by simpa using hj
    rw [nth_repl hj', nth_maps hj']
    exact idn_8 (nth ay j) (nb j (by omega)).1 (nb j (by omega)).2)
  have htu : ∀ V, Rd V so sn sy → Rd V ao an ay → _ := fun V h1 h2 => turned_bit 8 so ao sn sc an ac sy ay V h1 ssy h2 say (by decide)
  refine ident_left so ao sn sc an ac sy ay w hsy ssy hay say 0 7 _ _ _ _ _ _ 0 _ my mf (ay.map (fun z => z % 2)) (List.replicate ay.length 0) eS eA (by omega) (by omega) htu ?_ rfl rfl rfl rfl rfl (info_yes 7 (by omega))
  intro V b xso xo xsn xsc xn xc uso uo usn usc un uc a1 a2 a3 a4 a5 a6 a7 a8
  have := dyadP_atom xso xo xsn xsc xn xc uso uo usn usc un uc sy (List.replicate ay.length 0) sy (ay.map (fun z => z % 2)) V a1 a2 a3 a4 a5 a6 a7 a8 m2 m1 7 (by omega) rfl rfl rfl rfl
  rw [show (((7 : Nat) : Int) + 1) = 8 from rfl, d1, d2, d3] at this
  exact this

theorem ident_9 (so ao : Option Addr) (sn sc an ac : Nat) (sy ay : List Int) (w : World) (hsy : Rd w so sn sy) (ssy : Sl so sn sc) (hay : Rd w ao an ay) (say : Sl ao an ac) (my : mayA sy ay = 0) :
    Calls Tryz.prog 7 #[.int .i64 9, .agg #[.slice so sn sc, .slice ao an ac]] w fun e w' => e = .returned (.bool true) ∧ Below w.heap.size w w' := by
  have mf := (mayA_zero my).1
  have pl := (mayA_zero my).2
  have bd := prF_bd mf
  have eS : filS sy = sy := if_pos mf
  have eA : filA sy 0 = List.replicate ay.length 0 := by
    unfold filA
    rw [if_pos mf]
    have : (pr sy).toNat = ay.length := by omega
    rw [this]
  have m1 : mayA sy (ay.map (fun z => z % 2)) = 0 := mayA_len my (by simp)
  have m2 : mayA sy (List.replicate ay.length 0) = 0 := mayA_len my (by simp)
  have nb := hay.num
  have ln := hay.len
  obtain ⟨d1, d2, d3⟩ := dd_same 9 sy (ay.map (fun z => z % 2)) (List.replicate ay.length 0) (ay.map (fun z => z % 2)) m1 m2 (by decide) (by simp) (fun j hj => by
    have hj' : j < ay.length := by simpa using hj
    rw [nth_repl hj', nth_maps hj']
    exact idn_9 (nth ay j) (nb j (by omega)).1 (nb j (by omega)).2)
  have htu : ∀ V, Rd V so sn sy → Rd V ao an ay → _ := fun V h1 h2 => turned_bit 9 so ao sn sc an ac sy ay V h1 ssy h2 say (by decide)
  refine ident_right9 so ao sn sc an ac sy ay w hsy ssy hay say 0 _ _ _ _ _ _ 0 _ my mf (ay.map (fun z => z % 2)) (List.replicate ay.length 0) eS eA (by omega) (by omega) htu ?_ (info_yes 8 (by omega))
  intro V b xso xo xsn xsc xn xc uso uo usn usc un uc a1 a2 a3 a4 a5 a6 a7 a8
  have := dyadP_atom xso xo xsn xsc xn xc uso uo usn usc un uc sy (ay.map (fun z => z % 2)) sy (List.replicate ay.length 0) V a1 a2 a3 a4 a5 a6 a7 a8 m1 m2 8 (by omega) rfl rfl rfl rfl
  rw [show (((8 : Nat) : Int) + 1) = 9 from rfl, d1, d2, d3] at this
  exact this

theorem ident_10 (so ao : Option Addr) (sn sc an ac : Nat) (sy ay : List Int) (w : World) (hsy : Rd w so sn sy) (ssy : Sl so sn sc) (hay : Rd w ao an ay) (say : Sl ao an ac) (my : mayA sy ay = 0) :
    Calls Tryz.prog 7 #[.int .i64 10, .agg #[.slice so sn sc, .slice ao an ac]] w fun e w' => e = .returned (.bool true) ∧ Below w.heap.size w w' := by
  have mf := (mayA_zero my).1
  have pl := (mayA_zero my).2
  have bd := prF_bd mf
  have eS : filS sy = sy := if_pos mf
  have eA : filA sy 1 = List.replicate ay.length 1 := by
    unfold filA
    rw [if_pos mf]
    have : (pr sy).toNat = ay.length := by omega
    rw [this]
  have m1 : mayA sy (ay.map (fun z => z % 2)) = 0 := mayA_len my (by simp)
  have m2 : mayA sy (List.replicate ay.length 1) = 0 := mayA_len my (by simp)
  have nb := hay.num
  have ln := hay.len
  obtain ⟨d1, d2, d3⟩ := dd_same 10 sy (List.replicate ay.length 1) (ay.map (fun z => z % 2)) (ay.map (fun z => z % 2)) m2 m1 (by decide) (by simp) (fun j hj => by
    have hj' : j < ay.length := by simpa using hj
    rw [nth_repl hj', nth_maps hj']
    exact idn_10 (nth ay j) (nb j (by omega)).1 (nb j (by omega)).2)
  have htu : ∀ V, Rd V so sn sy → Rd V ao an ay → _ := fun V h1 h2 => turned_bit 10 so ao sn sc an ac sy ay V h1 ssy h2 say (by decide)
  refine ident_left so ao sn sc an ac sy ay w hsy ssy hay say 0 9 _ _ _ _ _ _ 1 _ my mf (ay.map (fun z => z % 2)) (List.replicate ay.length 1) eS eA (by omega) (by omega) htu ?_ rfl rfl rfl rfl rfl (info_yes 9 (by omega))
  intro V b xso xo xsn xsc xn xc uso uo usn usc un uc a1 a2 a3 a4 a5 a6 a7 a8
  have := dyadP_atom xso xo xsn xsc xn xc uso uo usn usc un uc sy (List.replicate ay.length 1) sy (ay.map (fun z => z % 2)) V a1 a2 a3 a4 a5 a6 a7 a8 m2 m1 9 (by omega) rfl rfl rfl rfl
  rw [show (((9 : Nat) : Int) + 1) = 10 from rfl, d1, d2, d3] at this
  exact this

theorem ident_11 (so ao : Option Addr) (sn sc an ac : Nat) (sy ay : List Int) (w : World) (hsy : Rd w so sn sy) (ssy : Sl so sn sc) (hay : Rd w ao an ay) (say : Sl ao an ac) (my : mayA sy ay = 0) :
    Calls Tryz.prog 7 #[.int .i64 11, .agg #[.slice so sn sc, .slice ao an ac]] w fun e w' => e = .returned (.bool true) ∧ Below w.heap.size w w' := by
  have mf := (mayA_zero my).1
  have pl := (mayA_zero my).2
  have bd := prF_bd mf
  have eS : filS sy = sy := if_pos mf
  have eA : filA sy 0 = List.replicate ay.length 0 := by
    unfold filA
    rw [if_pos mf]
    have : (pr sy).toNat = ay.length := by omega
    rw [this]
  have m1 : mayA sy (ay.map (fun z => z % 2)) = 0 := mayA_len my (by simp)
  have m2 : mayA sy (List.replicate ay.length 0) = 0 := mayA_len my (by simp)
  have nb := hay.num
  have ln := hay.len
  obtain ⟨d1, d2, d3⟩ := dd_same 11 sy (List.replicate ay.length 0) (ay.map (fun z => z % 2)) (ay.map (fun z => z % 2)) m2 m1 (by decide) (by simp) (fun j hj => by
    have hj' : j < ay.length := by simpa using hj
    rw [nth_repl hj', nth_maps hj']
    exact idn_11 (nth ay j) (nb j (by omega)).1 (nb j (by omega)).2)
  have htu : ∀ V, Rd V so sn sy → Rd V ao an ay → _ := fun V h1 h2 => turned_bit 11 so ao sn sc an ac sy ay V h1 ssy h2 say (by decide)
  refine ident_left so ao sn sc an ac sy ay w hsy ssy hay say 0 10 _ _ _ _ _ _ 0 _ my mf (ay.map (fun z => z % 2)) (List.replicate ay.length 0) eS eA (by omega) (by omega) htu ?_ rfl rfl rfl rfl rfl (info_yes 10 (by omega))
  intro V b xso xo xsn xsc xn xc uso uo usn usc un uc a1 a2 a3 a4 a5 a6 a7 a8
  have := dyadP_atom xso xo xsn xsc xn xc uso uo usn usc un uc sy (List.replicate ay.length 0) sy (ay.map (fun z => z % 2)) V a1 a2 a3 a4 a5 a6 a7 a8 m2 m1 10 (by omega) rfl rfl rfl rfl
  rw [show (((10 : Nat) : Int) + 1) = 11 from rfl, d1, d2, d3] at this
  exact this

theorem ident_12 (so ao : Option Addr) (sn sc an ac : Nat) (sy ay : List Int) (w : World) (hsy : Rd w so sn sy) (ssy : Sl so sn sc) (hay : Rd w ao an ay) (say : Sl ao an ac) (my : mayA sy ay = 0) :
    Calls Tryz.prog 7 #[.int .i64 12, .agg #[.slice so sn sc, .slice ao an ac]] w fun e w' => e = .returned (.bool true) ∧ Below w.heap.size w w' := by
  have mf := (mayA_zero my).1
  have pl := (mayA_zero my).2
  have bd := prF_bd mf
  have eS : filS sy = sy := if_pos mf
  have eA : filA sy 1 = List.replicate ay.length 1 := by
    unfold filA
    rw [if_pos mf]
    have : (pr sy).toNat = ay.length := by omega
    rw [this]
  have m1 : mayA sy (ay.map (fun z => z % 2)) = 0 := mayA_len my (by simp)
  have m2 : mayA sy (List.replicate ay.length 1) = 0 := mayA_len my (by simp)
  have nb := hay.num
  have ln := hay.len
  obtain ⟨d1, d2, d3⟩ := dd_same 12 sy (List.replicate ay.length 1) (ay.map (fun z => z % 2)) (ay.map (fun z => z % 2)) m2 m1 (by decide) (by simp) (fun j hj => by
    have hj' : j < ay.length := by simpa using hj
    rw [nth_repl hj', nth_maps hj']
    exact idn_12 (nth ay j) (nb j (by omega)).1 (nb j (by omega)).2)
  have htu : ∀ V, Rd V so sn sy → Rd V ao an ay → _ := fun V h1 h2 => turned_bit 12 so ao sn sc an ac sy ay V h1 ssy h2 say (by decide)
  refine ident_left so ao sn sc an ac sy ay w hsy ssy hay say 0 11 _ _ _ _ _ _ 1 _ my mf (ay.map (fun z => z % 2)) (List.replicate ay.length 1) eS eA (by omega) (by omega) htu ?_ rfl rfl rfl rfl rfl (info_yes 11 (by omega))
  intro V b xso xo xsn xsc xn xc uso uo usn usc un uc a1 a2 a3 a4 a5 a6 a7 a8
  have := dyadP_atom xso xo xsn xsc xn xc uso uo usn usc un uc sy (List.replicate ay.length 1) sy (ay.map (fun z => z % 2)) V a1 a2 a3 a4 a5 a6 a7 a8 m2 m1 11 (by omega) rfl rfl rfl rfl
  rw [show (((11 : Nat) : Int) + 1) = 12 from rfl, d1, d2, d3] at this
  exact this

theorem ident_13 (so ao : Option Addr) (sn sc an ac : Nat) (sy ay : List Int) (w : World) (hsy : Rd w so sn sy) (ssy : Sl so sn sc) (hay : Rd w ao an ay) (say : Sl ao an ac) (my : mayA sy ay = 0) :
    Calls Tryz.prog 7 #[.int .i64 13, .agg #[.slice so sn sc, .slice ao an ac]] w fun e w' => e = .returned (.bool true) ∧ Below w.heap.size w w' := by
  have mf := (mayA_zero my).1
  have pl := (mayA_zero my).2
  have bd := prF_bd mf
  have eS : filS sy = sy := if_pos mf
  have eA : filA sy 1 = List.replicate ay.length 1 := by
    unfold filA
    rw [if_pos mf]
    have : (pr sy).toNat = ay.length := by omega
    rw [this]
  have m1 : mayA sy (ay.map (fun z => z % 2)) = 0 := mayA_len my (by simp)
  have m2 : mayA sy (List.replicate ay.length 1) = 0 := mayA_len my (by simp)
  have nb := hay.num
  have ln := hay.len
  obtain ⟨d1, d2, d3⟩ := dd_same 13 sy (ay.map (fun z => z % 2)) (List.replicate ay.length 1) (ay.map (fun z => z % 2)) m1 m2 (by decide) (by simp) (fun j hj => by
    have hj' : j < ay.length := by simpa using hj
    rw [nth_repl hj', nth_maps hj']
    exact idn_13 (nth ay j) (nb j (by omega)).1 (nb j (by omega)).2)
  have htu : ∀ V, Rd V so sn sy → Rd V ao an ay → _ := fun V h1 h2 => turned_bit 13 so ao sn sc an ac sy ay V h1 ssy h2 say (by decide)
  refine ident_right13 so ao sn sc an ac sy ay w hsy ssy hay say 0 _ _ _ _ _ _ 1 _ my mf (ay.map (fun z => z % 2)) (List.replicate ay.length 1) eS eA (by omega) (by omega) htu ?_ (info_yes 12 (by omega))
  intro V b xso xo xsn xsc xn xc uso uo usn usc un uc a1 a2 a3 a4 a5 a6 a7 a8
  have := dyadP_atom xso xo xsn xsc xn xc uso uo usn usc un uc sy (ay.map (fun z => z % 2)) sy (List.replicate ay.length 1) V a1 a2 a3 a4 a5 a6 a7 a8 m1 m2 12 (by omega) rfl rfl rfl rfl
  rw [show (((12 : Nat) : Int) + 1) = 13 from rfl, d1, d2, d3] at this
  exact this

theorem ident_14 (so ao : Option Addr) (sn sc an ac : Nat) (sy ay : List Int) (w : World) (hsy : Rd w so sn sy) (ssy : Sl so sn sc) (hay : Rd w ao an ay) (say : Sl ao an ac) (my : mayA sy ay = 0) :
    Calls Tryz.prog 7 #[.int .i64 14, .agg #[.slice so sn sc, .slice ao an ac]] w fun e w' => e = .returned (.bool true) ∧ Below w.heap.size w w' := by
  have mf := (mayA_zero my).1
  have pl := (mayA_zero my).2
  have bd := prF_bd mf
  have eS : filS sy = sy := if_pos mf
  have eA : filA sy 0 = List.replicate ay.length 0 := by
    unfold filA
    rw [if_pos mf]
    have : (pr sy).toNat = ay.length := by omega
    rw [this]
  have m1 : mayA sy (ay.map (fun z => z % 9223372036854775808)) = 0 := mayA_len my (by simp)
  have m2 : mayA sy (List.replicate ay.length 0) = 0 := mayA_len my (by simp)
  have nb := hay.num
  have ln := hay.len
  obtain ⟨d1, d2, d3⟩ := dd_same 14 sy (List.replicate ay.length 0) (ay.map (fun z => z % 9223372036854775808)) (ay.map (fun z => z % 9223372036854775808)) m2 m1 (by decide) (by simp) (fun j hj => by
    have hj' : j < ay.length := by simpa using hj
    rw [nth_repl hj', nth_maps hj']
    exact idn_14 (nth ay j) (nb j (by omega)).1 (nb j (by omega)).2)
  have htu : ∀ V, Rd V so sn sy → Rd V ao an ay → _ := fun V h1 h2 => turned_pos 14 so ao sn sc an ac sy ay V h1 ssy h2 say (by decide)
  refine ident_left so ao sn sc an ac sy ay w hsy ssy hay say 0 13 _ _ _ _ _ _ 0 _ my mf (ay.map (fun z => z % 9223372036854775808)) (List.replicate ay.length 0) eS eA (by omega) (by omega) htu ?_ rfl rfl rfl rfl rfl (info_yes 13 (by omega))
  intro V b xso xo xsn xsc xn xc uso uo usn usc un uc a1 a2 a3 a4 a5 a6 a7 a8
  have := dyadP_atom xso xo xsn xsc xn xc uso uo usn usc un uc sy (List.replicate ay.length 0) sy (ay.map (fun z => z % 9223372036854775808)) V a1 a2 a3 a4 a5 a6 a7 a8 m2 m1 13 (by omega) rfl rfl rfl rfl
  rw [show (((13 : Nat) : Int) + 1) = 14 from rfl, d1, d2, d3] at this
  exact this

theorem ident_15 (so ao : Option Addr) (sn sc an ac : Nat) (sy ay : List Int) (w : World) (hsy : Rd w so sn sy) (ssy : Sl so sn sc) (hay : Rd w ao an ay) (say : Sl ao an ac) (my : mayA sy ay = 0) :
    Calls Tryz.prog 7 #[.int .i64 15, .agg #[.slice so sn sc, .slice ao an ac]] w fun e w' => e = .returned (.bool true) ∧ Below w.heap.size w w' := by
  have mf := (mayA_zero my).1
  have pl := (mayA_zero my).2
  have bd := prF_bd mf
  have eS : filS sy = sy := if_pos mf
  have eA : filA sy 1 = List.replicate ay.length 1 := by
    unfold filA
    rw [if_pos mf]
    have : (pr sy).toNat = ay.length := by omega
    rw [this]
  have m1 : mayA sy (ay.map (fun z => z % 9223372036854775808)) = 0 := mayA_len my (by simp)
  have m2 : mayA sy (List.replicate ay.length 1) = 0 := mayA_len my (by simp)
  have nb := hay.num
  have ln := hay.len
  obtain ⟨d1, d2, d3⟩ := dd_same 15 sy (List.replicate ay.length 1) (ay.map (fun z => z % 9223372036854775808)) (ay.map (fun z => z % 9223372036854775808)) m2 m1 (by decide) (by simp) (fun j hj => by
    have hj' : j < ay.length := by simpa using hj
    rw [nth_repl hj', nth_maps hj']
    exact idn_15 (nth ay j) (nb j (by omega)).1 (nb j (by omega)).2)
  have htu : ∀ V, Rd V so sn sy → Rd V ao an ay → _ := fun V h1 h2 => turned_pos 15 so ao sn sc an ac sy ay V h1 ssy h2 say (by decide)
  refine ident_left so ao sn sc an ac sy ay w hsy ssy hay say 0 14 _ _ _ _ _ _ 1 _ my mf (ay.map (fun z => z % 9223372036854775808)) (List.replicate ay.length 1) eS eA (by omega) (by omega) htu ?_ rfl rfl rfl rfl rfl (info_yes 14 (by omega))
  intro V b xso xo xsn xsc xn xc uso uo usn usc un uc a1 a2 a3 a4 a5 a6 a7 a8
  have := dyadP_atom xso xo xsn xsc xn xc uso uo usn usc un uc sy (List.replicate ay.length 1) sy (ay.map (fun z => z % 9223372036854775808)) V a1 a2 a3 a4 a5 a6 a7 a8 m2 m1 14 (by omega) rfl rfl rfl rfl
  rw [show (((14 : Nat) : Int) + 1) = 15 from rfl, d1, d2, d3] at this
  exact this

theorem ident_20 (so ao : Option Addr) (sn sc an ac : Nat) (sy ay : List Int) (w : World) (hsy : Rd w so sn sy) (ssy : Sl so sn sc) (hay : Rd w ao an ay) (say : Sl ao an ac) (my : mayA sy ay = 0) :
    Calls Tryz.prog 7 #[.int .i64 20, .agg #[.slice so sn sc, .slice ao an ac]] w fun e w' => e = .returned (.bool true) ∧ Below w.heap.size w w' := by
  have mf := (mayA_zero my).1
  have pl := (mayA_zero my).2
  have bd := prF_bd mf
  have eS : filS sy = sy := if_pos mf
  have eA : filA sy 1 = List.replicate ay.length 1 := by
    unfold filA
    rw [if_pos mf]
    have : (pr sy).toNat = ay.length := by omega
    rw [this]
  have m1 : mayA sy (ay.map (fun z => z)) = 0 := mayA_len my (by simp)
  have m2 : mayA sy (List.replicate ay.length 1) = 0 := mayA_len my (by simp)
  have nb := hay.num
  have ln := hay.len
  obtain ⟨d1, d2, d3⟩ := dd_same 20 sy (ay.map (fun z => z)) (List.replicate ay.length 1) (ay.map (fun z => z)) m1 m2 (by decide) (by simp) (fun j hj => by
    have hj' : j < ay.length := by simpa using hj
    rw [nth_repl hj', nth_maps hj']
    exact idn_20 (nth ay j) (nb j (by omega)).1 (nb j (by omega)).2)
  have htu : ∀ V, Rd V so sn sy → Rd V ao an ay → _ := fun V h1 h2 => turned_same 20 so ao sn sc an ac sy ay V h1 ssy h2 say (by decide)
  refine ident_right20 so ao sn sc an ac sy ay w hsy ssy hay say 0 _ _ _ _ _ _ 1 _ my mf (ay.map (fun z => z)) (List.replicate ay.length 1) eS eA (by omega) (by omega) htu ?_ (info_yes 19 (by omega))
  intro V b xso xo xsn xsc xn xc uso uo usn usc un uc a1 a2 a3 a4 a5 a6 a7 a8
  have := dyadP_atom xso xo xsn xsc xn xc uso uo usn usc un uc sy (ay.map (fun z => z)) sy (List.replicate ay.length 1) V a1 a2 a3 a4 a5 a6 a7 a8 m1 m2 19 (by omega) rfl rfl rfl rfl
  rw [show (((19 : Nat) : Int) + 1) = 20 from rfl, d1, d2, d3] at this
  exact this

theorem ident_21 (so ao : Option Addr) (sn sc an ac : Nat) (sy ay : List Int) (w : World) (hsy : Rd w so sn sy) (ssy : Sl so sn sc) (hay : Rd w ao an ay) (say : Sl ao an ac) (my : mayA sy ay = 0) :
    Calls Tryz.prog 7 #[.int .i64 21, .agg #[.slice so sn sc, .slice ao an ac]] w fun e w' => e = .returned (.bool true) ∧ Below w.heap.size w w' := by
  have mf := (mayA_zero my).1
  have pl := (mayA_zero my).2
  have bd := prF_bd mf
  have eS : filS sy = sy := if_pos mf
  have eA : filA sy 1 = List.replicate ay.length 1 := by
    unfold filA
    rw [if_pos mf]
    have : (pr sy).toNat = ay.length := by omega
    rw [this]
  have m1 : mayA sy (ay.map (fun z => z % 9223372036854775808)) = 0 := mayA_len my (by simp)
  have m2 : mayA sy (List.replicate ay.length 1) = 0 := mayA_len my (by simp)
  have nb := hay.num
  have ln := hay.len
  obtain ⟨d1, d2, d3⟩ := dd_same 21 sy (List.replicate ay.length 1) (ay.map (fun z => z % 9223372036854775808)) (ay.map (fun z => z % 9223372036854775808)) m2 m1 (by decide) (by simp) (fun j hj => by
    have hj' : j < ay.length := by simpa using hj
    rw [nth_repl hj', nth_maps hj']
    exact idn_21 (nth ay j) (nb j (by omega)).1 (nb j (by omega)).2)
  have htu : ∀ V, Rd V so sn sy → Rd V ao an ay → _ := fun V h1 h2 => turned_pos 21 so ao sn sc an ac sy ay V h1 ssy h2 say (by decide)
  refine ident_left so ao sn sc an ac sy ay w hsy ssy hay say 0 20 _ _ _ _ _ _ 1 _ my mf (ay.map (fun z => z % 9223372036854775808)) (List.replicate ay.length 1) eS eA (by omega) (by omega) htu ?_ rfl rfl rfl rfl rfl (info_yes 20 (by omega))
  intro V b xso xo xsn xsc xn xc uso uo usn usc un uc a1 a2 a3 a4 a5 a6 a7 a8
  have := dyadP_atom xso xo xsn xsc xn xc uso uo usn usc un uc sy (List.replicate ay.length 1) sy (ay.map (fun z => z % 9223372036854775808)) V a1 a2 a3 a4 a5 a6 a7 a8 m2 m1 20 (by omega) rfl rfl rfl rfl
  rw [show (((20 : Nat) : Int) + 1) = 21 from rfl, d1, d2, d3] at this
  exact this

theorem ident_walk (so ao : Option Addr) (sn sc an ac : Nat) (sy ay : List Int) (w : World) (hsy : Rd w so sn sy) (ssy : Sl so sn sc) (hay : Rd w ao an ay) (say : Sl ao an ac) (op : Int) :
    Calls Tryz.prog 7 #[.int .i64 op, .agg #[.slice so sn sc, .slice ao an ac]] w fun e w' => e = .returned (.bool true) ∧ Below w.heap.size w w' := by
  by_cases ho : op < 1 ∨ 43 < op
  · exact ident_no so ao sn sc an ac sy ay w hsy ssy hay say op (fun W => info_no op W ho)
  · obtain ⟨k, rfl⟩ : ∃ k : Nat, op = (k : Int) + 1 := ⟨(op - 1).toNat, by omega⟩
    have hk : k < 43 := by omega
    have hi := info_yes k hk
    cases hh : pH k
    · rw [hh] at hi
      exact ident_free so ao sn sc an ac sy ay w hsy ssy hay say 0 k _ _ _ _ _ _ _ _ hi
    · rw [hh] at hi
      by_cases my : mayA sy ay = 0
      · have hs : k = 0 ∨ k = 1 ∨ k = 2 ∨ k = 3 ∨ k = 4 ∨ k = 5 ∨ k = 6 ∨ k = 7 ∨ k = 8 ∨ k = 9 ∨ k = 10 ∨ k = 11 ∨ k = 12 ∨ k = 13 ∨ k = 14 ∨ k = 19 ∨ k = 20 := by
          have q : ∀ k : Fin 43, pH k.val = true → (k.val = 0 ∨ k.val = 1 ∨ k.val = 2 ∨ k.val = 3 ∨ k.val = 4 ∨ k.val = 5 ∨ k.val = 6 ∨ k.val = 7 ∨ k.val = 8 ∨ k.val = 9 ∨ k.val = 10 ∨ k.val = 11 ∨ k.val = 12 ∨ k.val = 13 ∨ k.val = 14 ∨ k.val = 19 ∨ k.val = 20) := by decide
          exact q ⟨k, hk⟩ hh
        rcases hs with rfl | rfl | rfl | rfl | rfl | rfl | rfl | rfl | rfl | rfl | rfl | rfl | rfl | rfl | rfl | rfl | rfl
        · exact ident_1 so ao sn sc an ac sy ay w hsy ssy hay say my
        · exact ident_2 so ao sn sc an ac sy ay w hsy ssy hay say my
        · exact ident_3 so ao sn sc an ac sy ay w hsy ssy hay say my
        · exact ident_4 so ao sn sc an ac sy ay w hsy ssy hay say my
        · exact ident_5 so ao sn sc an ac sy ay w hsy ssy hay say my
        · exact ident_6 so ao sn sc an ac sy ay w hsy ssy hay say my
        · exact ident_7 so ao sn sc an ac sy ay w hsy ssy hay say my
        · exact ident_8 so ao sn sc an ac sy ay w hsy ssy hay say my
        · exact ident_9 so ao sn sc an ac sy ay w hsy ssy hay say my
        · exact ident_10 so ao sn sc an ac sy ay w hsy ssy hay say my
        · exact ident_11 so ao sn sc an ac sy ay w hsy ssy hay say my
        · exact ident_12 so ao sn sc an ac sy ay w hsy ssy hay say my
        · exact ident_13 so ao sn sc an ac sy ay w hsy ssy hay say my
        · exact ident_14 so ao sn sc an ac sy ay w hsy ssy hay say my
        · exact ident_15 so ao sn sc an ac sy ay w hsy ssy hay say my
        · exact ident_20 so ao sn sc an ac sy ay w hsy ssy hay say my
        · exact ident_21 so ao sn sc an ac sy ay w hsy ssy hay say my
      · exact ident_bad so ao sn sc an ac sy ay w hsy ssy hay say 0 k _ _ _ _ _ _ _ _ my hi
end Go.Proofs.YtelcagfaflpolaaGreat
