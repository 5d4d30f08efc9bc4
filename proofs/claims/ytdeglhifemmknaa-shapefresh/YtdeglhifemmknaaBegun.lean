
/- What every statement asks ahead answers true. -/

import Derived.Test.YtdeglhifemmknaaWalks

namespace Go.Proofs.Ytdeglhifemmknaa

open Go.RowKit

set_option linter.unusedVariables false

def lits (zs : List Int) : Bool := decide (zs.length ≤ 100) && zs.all fun z => decide (-10000 ≤ z ∧ z ≤ 10000)

theorem rdA (W : World) (zs : List Int) (h : lits zs = true) : Rd (W.alloc (.cells (zs.map (Value.int .i64)).toArray 3)) (some ⟨W.heap.size, 0, none⟩) zs.length zs := by
  simp only [lits, Bool.and_eq_true, decide_eq_true_eq, List.all_eq_true] at h
  refine ⟨rfl, by omega, fun k hk => ?_, fun _ => ⟨W.heap.size, 0, rfl, by simp, fun k hk => ?_⟩⟩
  · have := h.2 _ (nth_mem hk); omega
  · have hb := World.alloc_heap_new W (.cells (zs.map (Value.int .i64)).toArray 3)
    have := cell_of_row (W.alloc (.cells (zs.map (Value.int .i64)).toArray 3)) W.heap.size (0 + k) _ 3 (0, 0) hb
    rw [this, Nat.zero_add]
    simpa using nth_map hk
theorem rdB (W : World) (o : Obj) (zs : List Int) (h : lits zs = true) : Rd ((W.alloc o).alloc (.cells (zs.map (Value.int .i64)).toArray 3)) (some ⟨W.heap.size + 1, 0, none⟩) zs.length zs := by
  have := rdA (W.alloc o) zs h
  rwa [World.size_alloc] at this
theorem slA (a : Addr) (n : Nat) (h : n ≤ 100) : Sl (some a) n n := ⟨fun e => (by cases e), Nat.le_refl _, by omega⟩

theorem b_size (W : World) : Calls Try.prog 12 #[.slice (some ⟨W.heap.size, 0, none⟩) 3 3] (W.alloc (.cells #[.int .i64 2, .int .i64 3, .int .i64 4] 3)) fun e w' => e = .returned (.tuple #[.int .i64 24, .int .i64 0]) ∧ Below W.heap.size W w' :=
  (size_any _ 3 3 [2, 3, 4] _ (rdA W [2, 3, 4] (by decide))).mono fun e w' ⟨h1, h2⟩ => ⟨h1, by rw [h2]; exact (Below.refl _ _).alloc (Nat.le_refl _) _⟩
theorem b_place (W : World) : Calls Try.prog 13 #[.slice (some ⟨W.heap.size, 0, none⟩) 3 3, .slice (some ⟨W.heap.size + 1, 0, none⟩) 3 3] ((W.alloc (.cells #[.int .i64 2, .int .i64 3, .int .i64 4] 3)).alloc (.cells #[.int .i64 1, .int .i64 2, .int .i64 3] 3))
    fun e w' => e = .returned (.tuple #[.int .i64 23, .int .i64 0]) ∧ Below W.heap.size W w' :=
  (place_any _ _ 3 3 3 3 [2, 3, 4] [1, 2, 3] _ ((rdA W [2, 3, 4] (by decide)).alloc _) (rdB W _ [1, 2, 3] (by decide))).mono fun e w' ⟨h1, h2⟩ => ⟨h1, by rw [h2]; exact ((Below.refl _ _).alloc (Nat.le_refl _) _).alloc (by simp) _⟩
theorem b_at (W : World) : Calls Try.prog 14 #[.slice (some ⟨W.heap.size, 0, none⟩) 3 3, .int .i64 23] (W.alloc (.cells #[.int .i64 2, .int .i64 3, .int .i64 4] 3))
    fun e w' => ∃ co k c, e = .returned (.tuple #[.slice co k c, .int .i64 0]) ∧ Rd w' co k [1, 2, 3] ∧ Below W.heap.size W w' :=
  (at_any _ 3 3 [2, 3, 4] 23 _ (rdA W [2, 3, 4] (by decide)) (by omega) (by omega)).mono fun e w' ⟨co, k, c, h1, h2, h3⟩ => ⟨co, k, c, h1, h2.rd, ((Below.refl _ _).alloc (Nat.le_refl _) _).trans (h3.mono (by simp))⟩
theorem b_split (W : World) : Calls Try.prog 15 #[.slice (some ⟨W.heap.size, 0, none⟩) 3 3, .int .i64 (-1)] (W.alloc (.cells #[.int .i64 2, .int .i64 3, .int .i64 4] 3))
    fun e w' => ∃ co c do' d, e = .returned (.tuple #[.slice co 1 c, .slice do' 2 d]) ∧ Rd w' co 1 [2] ∧ Rd w' do' 2 [3, 4] ∧ Below W.heap.size W w' :=
  (split_any _ 3 3 [2, 3, 4] (-1) _ (rdA W [2, 3, 4] (by decide)) (slA _ 3 (by omega)) (by omega) (by omega)).mono fun e w' ⟨co, c, do', d, h1, h2, h3, h4, h5⟩ => ⟨co, c, do', d, h1, h2.rd, h3.rd, ((Below.refl _ _).alloc (Nat.le_refl _) _).trans (h5.mono (by simp))⟩
theorem b_agree (W : World) : Calls Try.prog 16 #[.slice (some ⟨W.heap.size, 0, none⟩) 1 1, .slice (some ⟨W.heap.size + 1, 0, none⟩) 2 2] ((W.alloc (.cells #[.int .i64 2] 3)).alloc (.cells #[.int .i64 2, .int .i64 3] 3))
    fun e w' => ∃ co k c, e = .returned (.tuple #[.slice co k c, .int .i64 0]) ∧ Rd w' co k [2, 3] ∧ Below W.heap.size W w' :=
  (agree_any _ _ 1 2 1 2 [2] [2, 3] _ ((rdA W [2] (by decide)).alloc _) (rdB W _ [2, 3] (by decide)) (slA _ 1 (by omega)) (slA _ 2 (by omega))).mono fun e w' ⟨co, k, c, h1, h2, h3⟩ => ⟨co, k, c, h1, h2.rd, (((Below.refl _ _).alloc (Nat.le_refl _) _).alloc (by simp) _).trans (h3.mono (by simp; omega))⟩
theorem b_cover (W : World) : Calls Try.prog 17 #[.slice (some ⟨W.heap.size + 1 + 1, 0, none⟩) 2 2] (((W.alloc (.cells #[.int .i64 3] 3)).alloc (.cells #[.int .i64 2, .int .i64 1] 3)).alloc (.cells #[.slice (some ⟨W.heap.size, 0, none⟩) 1 1, .slice (some ⟨W.heap.size + 1, 0, none⟩) 2 2] 28))
    fun e w' => ∃ co k c, e = .returned (.tuple #[.slice co k c, .int .i64 0]) ∧ Rd w' co k [2, 3] ∧ Below W.heap.size W w' := by
  have hs : Rs (((W.alloc (.cells #[.int .i64 3] 3)).alloc (.cells #[.int .i64 2, .int .i64 1] 3)).alloc (.cells #[.slice (some ⟨W.heap.size, 0, none⟩) 1 1, .slice (some ⟨W.heap.size + 1, 0, none⟩) 2 2] 28)) (some ⟨W.heap.size + 1 + 1, 0, none⟩) 2 [[3], [2, 1]] := by
    refine ⟨rfl, by omega, fun _ => ⟨W.heap.size + 1 + 1, 0, rfl, by simp, fun k hk => ?_⟩⟩
    have hb := World.alloc_heap_new ((W.alloc (.cells #[.int .i64 3] 3)).alloc (.cells #[.int .i64 2, .int .i64 1] 3)) (.cells #[.slice (some ⟨W.heap.size, 0, none⟩) 1 1, .slice (some ⟨W.heap.size + 1, 0, none⟩) 2 2] 28)
    simp only [World.size_alloc] at hb
    have hc := fun j => cell_of_row _ _ j _ 28 (0, 0) hb
    match k, hk with
    | 0, _ => exact ⟨_, _, _, (hc 0).trans rfl, ((rdA W [3] (by decide)).alloc _).alloc _, slA _ 1 (by omega)⟩
    | 1, _ => exact ⟨_, _, _, (hc 1).trans rfl, (rdB W _ [2, 1] (by decide)).alloc _, slA _ 2 (by omega)⟩
  exact (cover_any _ 2 2 [[3], [2, 1]] _ hs).mono fun e w' ⟨co, k, c, h1, h2, h3⟩ => ⟨co, k, c, h1, h2.rd, ((((Below.refl _ _).alloc (Nat.le_refl _) _).alloc (by simp) _).alloc (by simp; omega) _).trans (h3.mono (by simp; omega))⟩
theorem b_may (W : World) : Calls Try.prog 18 #[.slice (some ⟨W.heap.size, 0, none⟩) 2 2] (W.alloc (.cells #[.int .i64 64, .int .i64 65] 3)) fun e w' => e = .returned (.int .i64 17) ∧ Below W.heap.size W w' :=
  (may_any _ 2 2 [64, 65] _ (rdA W [64, 65] (by decide))).mono fun e w' ⟨h1, h2⟩ => ⟨h1, by rw [h2]; exact (Below.refl _ _).alloc (Nat.le_refl _) _⟩
theorem b_eq (W : World) (zs : List Int) (hz : lits zs = true) (co : Option Addr) (k c : Nat) (h : Rd W co k zs) : Calls Try.prog 11 #[.slice co k c, .slice (some ⟨W.heap.size, 0, none⟩) zs.length zs.length] (W.alloc (.cells (zs.map (Value.int .i64)).toArray 3)) fun e w' => e = .returned (.bool true) ∧ Below W.heap.size W w' :=
  (eqInts_any _ _ k _ c _ zs zs _ (h.alloc _) (rdA W zs hz)).mono fun e w' ⟨h1, q, h2⟩ => ⟨by rw [h1, eqB_refl], by rw [h2]; exact below_drewN ((Below.refl _ _).alloc (Nat.le_refl _) _) q⟩
theorem b_all (W : World) : Calls Try.prog 20 #[.slice (some ⟨W.heap.size, 0, none⟩) 2 2] (W.alloc (.cells #[.int .i64 1, .int .i64 2] 3)) fun e w' => ∃ B1 B2 co c, e = .returned (.func (.func 34) #[] #[.pointer (some ⟨B1, 0, none⟩), .pointer (some ⟨B2, 0, none⟩)]) ∧ Sq w' B1 B2 co 2 c [1, 2] ∧ Below W.heap.size W w' :=
  (all_any _ 2 2 [1, 2] _ (rdA W [1, 2] (by decide))).mono fun e w' ⟨B1, B2, co, c, h1, h2, h3, h4, h5, h6⟩ => ⟨B1, B2, co, c, h1, h2, ((Below.refl _ _).alloc (Nat.le_refl _) _).trans (h6.mono (by simp))⟩
theorem b_walks (W : World) (B1 B2 : Nat) (co : Option Addr) (c : Nat) (h : Sq W B1 B2 co 2 c [1, 2]) : Calls Try.prog 19 #[.func (.func 34) #[] #[.pointer (some ⟨B1, 0, none⟩), .pointer (some ⟨B2, 0, none⟩)], .slice (some ⟨W.heap.size, 0, none⟩) 2 2, .int .i64 0] (W.alloc (.cells #[.int .i64 1, .int .i64 2] 3)) fun e w' => e = .returned (.bool true) ∧ Below W.heap.size W w' :=
  (walks_any _ 2 2 [1, 2] _ (rdA W [1, 2] (by decide)) B1 B2 co c (h.below ((Below.refl _ _).alloc (Nat.le_refl _) _) (Nat.le_refl _)) 0 (by omega) (by omega)).mono fun e w' ⟨h1, h2⟩ => ⟨h1, ((Below.refl _ _).alloc (Nat.le_refl _) _).trans (h2.mono (by simp))⟩

theorem bt {B : Nat} {a b c : World} (h : Below B a b) (k : Below b.heap.size b c) (hB : B ≤ b.heap.size) : Below B a c := h.trans (k.mono hB)

set_option maxHeartbeats 4000000 in
set_option maxRecDepth 20000 in
theorem begun_any (w : World) : Calls Try.prog 4 #[] w fun e w' => e = .returned (.bool true) ∧ Below w.heap.size w w' := by
  have e123 := fun W co k c h => b_eq W [1, 2, 3] (by decide) co k c h
  have e2 := fun W co k c h => b_eq W [2] (by decide) co k c h
  have e34 := fun W co k c h => b_eq W [3, 4] (by decide) co k c h
  have e23 := fun W co k c h => b_eq W [2, 3] (by decide) co k c h
  have e23' := fun W co k c h => b_eq W [2, 3] (by decide) co k c h
  simp only [List.map_cons, List.map_nil, List.length_cons, List.length_nil, Nat.reduceAdd] at e123 e2 e34 e23 e23'
  go_enter Try.func4, Try.ntmps4
  go_wp2_with (first
    | (go_at_call 12; refine (b_size _).mono ?_; rintro e w1 ⟨rfl, h1⟩)
    | (go_at_call 13; refine (b_place _).mono ?_; rintro e w2 ⟨rfl, h2⟩)
    | (go_at_call 14; refine (b_at _).mono ?_; rintro e w3 ⟨ca, ka, sa, rfl, ra, h3⟩)
    | (go_at_call 15; refine (b_split _).mono ?_; rintro e w4 ⟨cf, sf, cc, sc, rfl, rf, rc, h4⟩; replace ra := ra.below h4 (Nat.le_refl _))
    | (go_at_call 16; refine (b_agree _).mono ?_; rintro e w5 ⟨cg, kg, sg, rfl, rg, h5⟩; replace ra := ra.below h5 (Nat.le_refl _); replace rf := rf.below h5 (Nat.le_refl _); replace rc := rc.below h5 (Nat.le_refl _))
    | (go_at_call 17; refine (b_cover _).mono ?_; rintro e w6 ⟨cv, kv, sv, rfl, rv, h6⟩; replace ra := ra.below h6 (Nat.le_refl _); replace rf := rf.below h6 (Nat.le_refl _); replace rc := rc.below h6 (Nat.le_refl _); replace rg := rg.below h6 (Nat.le_refl _))
    | (go_at_call 18; refine (b_may _).mono ?_; rintro e w7 ⟨rfl, h7⟩; replace ra := ra.below h7 (Nat.le_refl _); replace rf := rf.below h7 (Nat.le_refl _); replace rc := rc.below h7 (Nat.le_refl _); replace rg := rg.below h7 (Nat.le_refl _); replace rv := rv.below h7 (Nat.le_refl _))
    | (go_at_call 11; (with_reducible refine (e123 _ _ _ _ ra).mono ?_); clear e123; rintro e w8 ⟨rfl, h8⟩; replace rf := rf.below h8 (Nat.le_refl _); replace rc := rc.below h8 (Nat.le_refl _); replace rg := rg.below h8 (Nat.le_refl _); replace rv := rv.below h8 (Nat.le_refl _))
    | (go_at_call 11; (with_reducible refine (e2 _ _ _ _ rf).mono ?_); clear e2; rintro e w9 ⟨rfl, h9⟩; replace rc := rc.below h9 (Nat.le_refl _); replace rg := rg.below h9 (Nat.le_refl _); replace rv := rv.below h9 (Nat.le_refl _))
    | (go_at_call 11; (with_reducible refine (e34 _ _ _ _ rc).mono ?_); clear e34; rintro e w10 ⟨rfl, h10⟩; replace rg := rg.below h10 (Nat.le_refl _); replace rv := rv.below h10 (Nat.le_refl _))
    | (go_at_call 11; (with_reducible refine (e23 _ _ _ _ rg).mono ?_); clear e23; rintro e w11 ⟨rfl, h11⟩; replace rv := rv.below h11 (Nat.le_refl _))
    | (go_at_call 11; (with_reducible refine (e23' _ _ _ _ rv).mono ?_); clear e23'; rintro e w12 ⟨rfl, h12⟩)
    | (go_at_call 20; refine (b_all _).mono ?_; rintro e w13 ⟨B1, B2, cq, sq, rfl, hq, h13⟩)
    | (go_at_call 19; refine (b_walks _ _ _ _ _ hq).mono ?_; rintro e w14 ⟨rfl, h14⟩))
  go_ret
  refine ⟨rfl, ?_⟩
  have hb := h1
  have := hb.size
  replace hb := bt hb h2 hb.size
  replace hb := bt hb h3 hb.size
  replace hb := bt hb h4 hb.size
  replace hb := bt hb h5 hb.size
  replace hb := bt hb h6 hb.size
  replace hb := bt hb h7 hb.size
  replace hb := bt hb h8 hb.size
  replace hb := bt hb h9 hb.size
  replace hb := bt hb h10 hb.size
  replace hb := bt hb h11 hb.size
  replace hb := bt hb h12 hb.size
  replace hb := bt hb h13 hb.size
  exact bt hb h14 hb.size
end Go.Proofs.Ytdeglhifemmknaa
