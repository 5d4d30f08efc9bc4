
/- Contracts of package mold: an axis that is turned, cut or read from behind. -/

import Derived.Test.YtpfdiammgdnhmaaGreatMG

namespace Go.Proofs.YtpfdiammgdnhmaaGreat

open Go.RowKit

set_option linter.unusedVariables false

/-- How many places a number asks for. -/
def szN (n : Int) : Nat := min n.natAbs 4097
theorem szN_le (n : Int) : szN n ≤ 4097 := by unfold szN; omega
theorem ret_nat {a : Int} {b : Nat} (h : a = (b : Int)) : Ending.returned (.int .i64 a) = .returned (.int .i64 (b : Nat)) := by rw [h]
set_option maxHeartbeats 1000000 in
theorem msize_any (n : Int) (w : World) (h1 : -9223372036854775808 ≤ n) (h2 : n ≤ 9223372036854775807) : Calls Tryz.prog 104 #[.int .i64 n] w fun e w' => e = .returned (.int .i64 (szN n : Nat)) ∧ w' = w := by
  have HS : Hid (szN n = min n.natAbs 4097) := rfl
  by_cases c : n < 0
  · have w1 : IntKind.u64.wrap n = n + 18446744073709551616 := by
      have : IntKind.u64.wrap n = IntKind.u64.wrap (n + 18446744073709551616) := by simp [IntKind.wrap, IntKind.bits]
      rw [this]; exact IntWalk.u64_in _ (by omega)
    have w2 : IntKind.u64.wrap (-(n + 18446744073709551616)) = -n := by
      have : IntKind.u64.wrap (-(n + 18446744073709551616)) = IntKind.u64.wrap (-n) := by
        rw [show -(n + 18446744073709551616) = -n - 18446744073709551616 by omega]; simp [IntKind.wrap, IntKind.bits]
      rw [this]; exact IntWalk.u64_in _ (by omega)
    have t0 : decide (n < 0) = true := by simpa using c
    have HC : Hid (n < 0) := c
    clear c
    go_enter Tryz.func104, Tryz.ntmps104
    go_wp2
    all_goals
      go_ret
      exact ⟨ret_nat (by have := HS.out; have := HC.out; omega), rfl⟩
  · have w1 : IntKind.u64.wrap n = n := IntWalk.u64_in _ (by omega)
    have t0 : decide (n < 0) = false := by simpa using c
    have HC : Hid (¬ n < 0) := c
    clear c
    go_enter Tryz.func104, Tryz.ntmps104
    go_wp2
    all_goals
      go_ret
      exact ⟨ret_nat (by have := HS.out; have := HC.out; omega), rfl⟩

/-- An axis that was answered: its way leans on what it leaned on, and on what is new. -/
def AxN (w w' : World) (bs0 : List Nat) (a : Ax) (v : Value) : Prop :=
  ∃ (K : Nat) (cs : Array Value) (bs : List Nat), v = .agg #[.int .i64 (a.len : Nat), .int .i64 (a.wid : Nat), .int .i64 (a.stp : Nat), .func (.func K) #[] cs] ∧ Way w' bs a.wid a.stp a.f (.func (.func K) #[] cs) ∧ ∀ b, b ∈ bs → (∃ v, w'.cell? ⟨b, 0, none⟩ = some v) ∧ (b ∈ bs0 ∨ w.heap.size ≤ b)
def tuA (a : Ax) (n : Int) : Ax := if a.wid = 0 then a else ⟨a.len, a.wid, a.stp, fun i => Int.tmod ((i : Int) + Int.tmod n (a.wid : Int) + (a.wid : Int)) (a.wid : Int)⟩
def taA (a : Ax) (n : Int) : Ax := ⟨szN n, a.wid, a.stp, if n < 0 then fun i => (i : Int) + ((a.wid : Int) - (szN n : Int)) else a.f⟩
def drA (a : Ax) (n : Int) : Ax := ⟨a.wid - min (szN n) a.wid, a.wid, a.stp, if 0 < n then fun i => (i : Int) + ((min (szN n) a.wid : Nat) : Int) else a.f⟩
def baA (a : Ax) : Ax := ⟨a.len, a.wid, a.stp, fun i => (a.wid : Int) - 1 - (i : Int)⟩
theorem axn_same {w w' : World} {bs : List Nat} {a : Ax} {K : Nat} {cs : Array Value} (h : Way w bs a.wid a.stp a.f (.func (.func K) #[] cs)) (hbs : ∀ b, b ∈ bs → ∃ v, w.cell? ⟨b, 0, none⟩ = some v) (hb : Below w.heap.size w w') : AxN w w' bs a (.agg #[.int .i64 (a.len : Nat), .int .i64 (a.wid : Nat), .int .i64 (a.stp : Nat), .func (.func K) #[] cs]) := by
  refine ⟨K, cs, bs, rfl, h.keep (fun b m => ?_), fun b m => ?_⟩
  · obtain ⟨v, hv⟩ := hbs b m
    exact hb.block b (World.block_lt_of_cell? w _ hv)
  · obtain ⟨v, hv⟩ := hbs b m
    exact ⟨⟨v, (hb.cell (p := ⟨b, 0, none⟩) (World.block_lt_of_cell? w _ hv)).trans hv⟩, .inl m⟩

theorem three_below (w : World) (o1 o2 o3 : Obj) : Below w.heap.size w (((w.alloc o1).alloc o2).alloc o3) :=
  (((Below.refl _ w).alloc (Nat.le_refl _) _).alloc (by simp) _).alloc (by simp; omega) _

set_option maxHeartbeats 2000000 in
theorem turn_any (a : Ax) (n : Int) (K : Nat) (cs : Array Value) (bs : List Nat) (w : World) (hw : a.wid ≤ 4096) (hs : a.stp ≤ 4096) (hl : a.len ≤ 1000000) (h1 : -9223372036854775808 ≤ n) (h2 : n ≤ 9223372036854775807) (hway : Way w bs a.wid a.stp a.f (.func (.func K) #[] cs)) (hbs : ∀ b, b ∈ bs → ∃ v, w.cell? ⟨b, 0, none⟩ = some v) :
    Calls Tryz.prog 81 #[.agg #[.int .i64 (a.len : Nat), .int .i64 (a.wid : Nat), .int .i64 (a.stp : Nat), .func (.func K) #[] cs], .int .i64 n] w fun e w' => ∃ v, e = .returned v ∧ AxN w w' bs (tuA a n) v ∧ Below w.heap.size w w' := by
  obtain ⟨len, wid, stp, f⟩ := a
  dsimp only at *
  by_cases c : wid = 0
  · have e : tuA ⟨len, wid, stp, f⟩ n = ⟨len, wid, stp, f⟩ := if_pos c
    rw [e]
    subst c
    clear e
    go_enter Tryz.func81, Tryz.ntmps81
    go_wp2
    (try simp only [Exit.inBlock, Exit.then])
    refine bodyPost_ret (v := .agg #[.int .i64 (len : Nat), .int .i64 0, .int .i64 (stp : Nat), .func (.func K) #[] cs]) (by simp [results, Tryz.results81]; go_simp) rfl ?_
    exact ⟨_, rfl, axn_same (a := ⟨len, 0, stp, f⟩) hway hbs ((box_below w _).trans ((box_below _ _).mono (by simp))), (box_below w _).trans ((box_below _ _).mono (by simp))⟩
  · have e : tuA ⟨len, wid, stp, f⟩ n = ⟨len, wid, stp, fun i => Int.tmod ((i : Int) + Int.tmod n (wid : Int) + (wid : Int)) (wid : Int)⟩ := if_neg c
    rw [e]
    have t0 : ((wid : Int) == 0) = false := by simpa using c
    have t1 : ¬ (wid : Int) = 0 := by omega
    have HC : Hid (0 < wid) := Nat.pos_of_ne_zero c
    have hm := Int.tmod_lt_of_pos n (show (0 : Int) < (wid : Int) by omega)
    have hm2 := Int.lt_tmod_of_pos n (show (0 : Int) < (wid : Int) by omega)
    have w1 := wr (z := Int.tmod n (wid : Int)) (by omega) (by omega)
    have HM : Hid (-(wid : Int) < Int.tmod n (wid : Int) ∧ Int.tmod n (wid : Int) < (wid : Int)) := ⟨hm2, hm⟩
    clear e c hm hm2
    go_enter Tryz.func81, Tryz.ntmps81
    go_wp2
    (try simp only [Exit.inBlock, Exit.then])
    refine bodyPost_ret (v := .agg #[.int .i64 (len : Nat), .int .i64 (wid : Nat), .int .i64 (stp : Nat), tuV (w.heap.size + 1 + 1) w.heap.size]) (by simp [results, Tryz.results81]; go_simp; rfl) rfl ?_
    refine ⟨_, rfl, ⟨_, _, [w.heap.size + 1 + 1, w.heap.size], rfl, ?_, fun b m => ?_⟩, three_below w _ _ _⟩
    · refine way_tu (d := Int.tmod n (wid : Int)) (n := wid) wid stp hw hs ?_ ?_ (by have := HM.out; omega) (by have := HM.out; omega) HC.out hw
      · go_simp
      · go_simp
    simp only [List.mem_cons, List.not_mem_nil, or_false] at m
    rcases m with rfl | rfl
    · refine ⟨⟨.int .i64 (Int.tmod n (wid : Int)), ?_⟩, .inr (by omega)⟩
      go_simp
    · refine ⟨⟨.int .i64 (len : Nat), ?_⟩, .inr (Nat.le_refl _)⟩
      go_simp

theorem shifted_eq (d : Int) (w : World) : Calls Tryz.prog 90 #[.int .i64 d] w fun e w' => e = .returned (shV w.heap.size) ∧ w' = w.alloc (.cells #[.int .i64 d] 3) := by
  unfold shV
  go_enter Tryz.func90, Tryz.ntmps90
  go_wp2
  go_ret
  exact ⟨rfl, rfl⟩

set_option maxHeartbeats 2000000 in
theorem take_any (a : Ax) (n : Int) (K : Nat) (cs : Array Value) (bs : List Nat) (w : World) (hw : a.wid ≤ 4096) (hs : a.stp ≤ 4096) (hl : a.len ≤ 1000000) (h1 : -9223372036854775808 ≤ n) (h2 : n ≤ 9223372036854775807) (hway : Way w bs a.wid a.stp a.f (.func (.func K) #[] cs)) (hbs : ∀ b, b ∈ bs → ∃ v, w.cell? ⟨b, 0, none⟩ = some v) :
    Calls Tryz.prog 78 #[.agg #[.int .i64 (a.len : Nat), .int .i64 (a.wid : Nat), .int .i64 (a.stp : Nat), .func (.func K) #[] cs], .int .i64 n] w fun e w' => ∃ v, e = .returned v ∧ AxN w w' bs (taA a n) v ∧ Below w.heap.size w w' := by
  obtain ⟨len, wid, stp, f⟩ := a
  dsimp only at *
  have hz := fun V => msize_any n V h1 h2
  have hle := szN_le n
  have hsh := fun V => shifted_eq ((wid : Int) - (szN n : Int)) V
  by_cases c : n < 0
  · have e : taA ⟨len, wid, stp, f⟩ n = ⟨szN n, wid, stp, fun i => (i : Int) + ((wid : Int) - (szN n : Int))⟩ := by unfold taA; rw [if_pos c]
    rw [e]
    have t0 : decide (n < 0) = true := by simpa using c
    have w1 := wr (z := (wid : Int) - (szN n : Int)) (by omega) (by omega)
    clear e c
    generalize szN n = S at *
    unfold shV at hsh
    go_enter Tryz.func78, Tryz.ntmps78
    go_wp2_with (first | (go_at_call 104; refine (hz _).mono ?_; rintro e w' ⟨rfl, rfl⟩) | (go_at_call 90; refine (hsh _).mono ?_; rintro e w' ⟨rfl, rfl⟩))
    (try simp only [Exit.inBlock, Exit.then])
    refine bodyPost_ret (v := .agg #[.int .i64 (S : Nat), .int .i64 (wid : Nat), .int .i64 (stp : Nat), shV (w.heap.size + 1 + 1)]) (by simp [results, Tryz.results78]; go_simp; rfl) rfl ?_
    refine ⟨_, rfl, ⟨_, _, [w.heap.size + 1 + 1], rfl, ?_, fun b m => ?_⟩, three_below w _ _ _⟩
    · refine way_sh (d := (wid : Int) - (S : Int)) wid stp hw hs ?_ (by omega) (by omega)
      go_simp
    rw [List.mem_singleton] at m
    subst m
    refine ⟨⟨.int .i64 ((wid : Int) - (S : Int)), ?_⟩, .inr (by omega)⟩
    go_simp
  · have e : taA ⟨len, wid, stp, f⟩ n = ⟨szN n, wid, stp, f⟩ := by unfold taA; rw [if_neg c]
    rw [e]
    have t0 : decide (n < 0) = false := by simpa using c
    clear e c hsh
    generalize szN n = S at *
    go_enter Tryz.func78, Tryz.ntmps78
    go_wp2_with (go_at_call 104; refine (hz _).mono ?_; rintro e w' ⟨rfl, rfl⟩)
    (try simp only [Exit.inBlock, Exit.then])
    refine bodyPost_ret (v := .agg #[.int .i64 (S : Nat), .int .i64 (wid : Nat), .int .i64 (stp : Nat), .func (.func K) #[] cs]) (by simp [results, Tryz.results78]; go_simp) rfl ?_
    exact ⟨_, rfl, axn_same (a := ⟨S, wid, stp, f⟩) hway hbs ((box_below w _).trans ((box_below _ _).mono (by simp))), (box_below w _).trans ((box_below _ _).mono (by simp))⟩

set_option maxHeartbeats 2000000 in
theorem back_any (a : Ax) (K : Nat) (cs : Array Value) (bs : List Nat) (w : World) (hw : a.wid ≤ 4096) (hs : a.stp ≤ 4096) :
    Calls Tryz.prog 60 #[.agg #[.int .i64 (a.len : Nat), .int .i64 (a.wid : Nat), .int .i64 (a.stp : Nat), .func (.func K) #[] cs]] w fun e w' => ∃ v, e = .returned v ∧ AxN w w' bs (baA a) v ∧ Below w.heap.size w w' := by
  obtain ⟨len, wid, stp, f⟩ := a
  dsimp only at *
  go_enter Tryz.func60, Tryz.ntmps60
  go_wp2
  (try simp only [Exit.inBlock, Exit.then])
  refine bodyPost_ret (v := .agg #[.int .i64 (len : Nat), .int .i64 (wid : Nat), .int .i64 (stp : Nat), baV w.heap.size]) (by simp [results, Tryz.results60]; go_simp; rfl) rfl ?_
  refine ⟨_, rfl, ⟨_, _, [w.heap.size], rfl, ?_, fun b m => ?_⟩, (box_below w _).trans ((box_below _ _).mono (by simp))⟩
  · refine way_ba (n := wid) wid stp hw hs ?_ hw
    simp
  rw [List.mem_singleton] at m
  subst m
  refine ⟨⟨.int .i64 (len : Nat), ?_⟩, .inr (Nat.le_refl _)⟩
  simp

end Go.Proofs.YtpfdiammgdnhmaaGreat
