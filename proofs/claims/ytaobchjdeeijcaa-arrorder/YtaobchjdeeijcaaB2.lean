/- The walk of the law ArrOrder. -/
import Derived.Test.YtaobchjdeeijcaaB1
namespace Go.Proofs.Ytaobchjdeeijcaa
open Go.RowKit
set_option linter.unusedVariables false

/-- Three arrays, each in a box. -/
structure Tri (w W : World) (p0 p1 p2 : Nat) (so : Option Addr) (sn sc : Nat) (ao : Option Addr) (an ac : Nat) (to : Option Addr) (tn tc : Nat) (bo : Option Addr) (bn bc : Nat) (uo : Option Addr) (un uc : Nat) (co : Option Addr) (cn cc : Nat) (s a t b u c : List Int) : Prop where
  x : Bx W p0 so sn sc ao an ac s a
  y : Bx W p1 to tn tc bo bn bc t b
  z : Bx W p2 uo un uc co cn cc u c
  bel : Below w.heap.size w W
section
variable {w W W' : World} {p0 p1 p2 : Nat} {so : Option Addr} {sn sc : Nat} {ao : Option Addr} {an ac : Nat} {to : Option Addr} {tn tc : Nat} {bo : Option Addr} {bn bc : Nat} {uo : Option Addr} {un uc : Nat} {co : Option Addr} {cn cc : Nat} {s a t b u c : List Int}
theorem Tri.below (h : Tri w W p0 p1 p2 so sn sc ao an ac to tn tc bo bn bc uo un uc co cn cc s a t b u c) (k : Below W.heap.size W W') : Tri w W' p0 p1 p2 so sn sc ao an ac to tn tc bo bn bc uo un uc co cn cc s a t b u c :=
  ⟨h.x.below k, h.y.below k, h.z.below k, btw h.bel k h.bel.size⟩
theorem Tri.drew (h : Tri w W p0 p1 p2 so sn sc ao an ac to tn tc bo bn bc uo un uc co cn cc s a t b u c) : Tri w W.drew p0 p1 p2 so sn sc ao an ac to tn tc bo bn bc uo un uc co cn cc s a t b u c := h.below (Below.refl _ W).drew
theorem Tri.all (h : Tri w W p0 p1 p2 so sn sc ao an ac to tn tc bo bn bc uo un uc co cn cc s a t b u c) : W.cell? ⟨p0, 0, none⟩ = some (.slice so sn sc) ∧ W.cell? ⟨p0, 1, none⟩ = some (.slice ao an ac) ∧ W.cell? ⟨p1, 0, none⟩ = some (.slice to tn tc) ∧ W.cell? ⟨p1, 1, none⟩ = some (.slice bo bn bc) ∧ W.cell? ⟨p2, 0, none⟩ = some (.slice uo un uc) ∧ W.cell? ⟨p2, 1, none⟩ = some (.slice co cn cc) ∧
    Tri w W p0 p1 p2 so sn sc ao an ac to tn tc bo bn bc uo un uc co cn cc s a t b u c := ⟨h.x.c0, h.x.c1, h.y.c0, h.y.c1, h.z.c0, h.z.c1, h⟩
end

theorem order_z {x y z : Int} (h : T3 x y z) (b : -1 ≤ z ∧ z ≤ 1) (hx : -1 ≤ x ∧ x ≤ 1) (hy : -1 ≤ y ∧ y ≤ 1) : (x = 0 ∧ y = 0 ∧ z = 0) ∨ ((x = 0 ∧ y = -1 ∨ x = -1 ∧ y = 0 ∨ x = -1 ∧ y = -1) ∧ z = -1) ∨ ((x = 0 ∧ y = 1 ∨ x = 1 ∧ y = 0 ∨ x = 1 ∧ y = 1) ∧ z = 1) ∨ (x = -1 ∧ y = 1) ∨ (x = 1 ∧ y = -1) := by
  have h1 := h.le
  have h2 := h.ge
  omega

set_option maxHeartbeats 20000000 in
set_option maxRecDepth 20000 in
theorem order_any (so ao to bo uo co : Option Addr) (sn sc an ac tn tc bn bc un uc cn cc : Nat) (s a t b u c : List Int) (w : World) (hs : Rd w so sn s) (ha : Rd w ao an a) (ht : Rd w to tn t) (hb : Rd w bo bn b) (hu : Rd w uo un u) (hc : Rd w co cn c) :
    Calls Try.prog 7 #[.agg #[.slice so sn sc, .slice ao an ac], .agg #[.slice to tn tc, .slice bo bn bc], .agg #[.slice uo un uc, .slice co cn cc]] w fun e w' => e = .returned (.bool true) ∧ Below w.heap.size w w' := by
  have T0 : Tri w (((w.alloc (.cells #[.slice so sn sc, .slice ao an ac] 55)).alloc (.cells #[.slice to tn tc, .slice bo bn bc] 55)).alloc (.cells #[.slice uo un uc, .slice co cn cc] 55)) w.heap.size (w.heap.size + 1) (w.heap.size + 1 + 1) so sn sc ao an ac to tn tc bo bn bc uo un uc co cn cc s a t b u c := by
    have k1 := box_below w (.cells #[.slice so sn sc, .slice ao an ac] 55)
    have k2 := box_below (w.alloc (.cells #[.slice so sn sc, .slice ao an ac] 55)) (.cells #[.slice to tn tc, .slice bo bn bc] 55)
    have k3 := box_below ((w.alloc (.cells #[.slice so sn sc, .slice ao an ac] 55)).alloc (.cells #[.slice to tn tc, .slice bo bn bc] 55)) (.cells #[.slice uo un uc, .slice co cn cc] 55)
    have y := bx_new (sc := tc) (ac := bc) (ht.below k1 (Nat.le_refl _)) (hb.below k1 (Nat.le_refl _))
    have z := bx_new (sc := uc) (ac := cc) ((hu.below k1 (Nat.le_refl _)).below k2 (Nat.le_refl _)) ((hc.below k1 (Nat.le_refl _)).below k2 (Nat.le_refl _))
    simp only [World.size_alloc] at y z
    exact ⟨((bx_new hs ha).below k2).below k3, y.below k3, z, btw (btw k1 k2 k1.size) k3 (by simp; omega)⟩
  clear hs ha ht hb hu hc
  have cab : ∀ W, (W.cell? ⟨w.heap.size, 0, none⟩ = some (.slice so sn sc) ∧ W.cell? ⟨w.heap.size, 1, none⟩ = some (.slice ao an ac) ∧ W.cell? ⟨w.heap.size + 1, 0, none⟩ = some (.slice to tn tc) ∧ W.cell? ⟨w.heap.size + 1, 1, none⟩ = some (.slice bo bn bc) ∧ W.cell? ⟨w.heap.size + 1 + 1, 0, none⟩ = some (.slice uo un uc) ∧ W.cell? ⟨w.heap.size + 1 + 1, 1, none⟩ = some (.slice co cn cc) ∧ Tri w W w.heap.size (w.heap.size + 1) (w.heap.size + 1 + 1) so sn sc ao an ac to tn tc bo bn bc uo un uc co cn cc s a t b u c) → Calls Try.prog 25 #[.agg #[.slice so sn sc, .slice ao an ac], .agg #[.slice to tn tc, .slice bo bn bc]] W fun e w' => e = .returned (.int .i64 (cmpA s a t b)) ∧ Tri w w' w.heap.size (w.heap.size + 1) (w.heap.size + 1 + 1) so sn sc ao an ac to tn tc bo bn bc uo un uc co cn cc s a t b u c := fun W h =>
    have T := h.2.2.2.2.2.2
    (cmpA_any so ao to bo sn sc an ac tn tc bn bc s a t b W T.x.s T.x.a T.y.s T.y.a).mono fun e w' ⟨h1, h2⟩ => ⟨h1, T.below h2⟩
  have cbc : ∀ W, (W.cell? ⟨w.heap.size, 0, none⟩ = some (.slice so sn sc) ∧ W.cell? ⟨w.heap.size, 1, none⟩ = some (.slice ao an ac) ∧ W.cell? ⟨w.heap.size + 1, 0, none⟩ = some (.slice to tn tc) ∧ W.cell? ⟨w.heap.size + 1, 1, none⟩ = some (.slice bo bn bc) ∧ W.cell? ⟨w.heap.size + 1 + 1, 0, none⟩ = some (.slice uo un uc) ∧ W.cell? ⟨w.heap.size + 1 + 1, 1, none⟩ = some (.slice co cn cc) ∧ Tri w W w.heap.size (w.heap.size + 1) (w.heap.size + 1 + 1) so sn sc ao an ac to tn tc bo bn bc uo un uc co cn cc s a t b u c) → Calls Try.prog 25 #[.agg #[.slice to tn tc, .slice bo bn bc], .agg #[.slice uo un uc, .slice co cn cc]] W fun e w' => e = .returned (.int .i64 (cmpA t b u c)) ∧ Tri w w' w.heap.size (w.heap.size + 1) (w.heap.size + 1 + 1) so sn sc ao an ac to tn tc bo bn bc uo un uc co cn cc s a t b u c := fun W h =>
    have T := h.2.2.2.2.2.2
    (cmpA_any to bo uo co tn tc bn bc un uc cn cc t b u c W T.y.s T.y.a T.z.s T.z.a).mono fun e w' ⟨h1, h2⟩ => ⟨h1, T.below h2⟩
  have cac : ∀ W, (W.cell? ⟨w.heap.size, 0, none⟩ = some (.slice so sn sc) ∧ W.cell? ⟨w.heap.size, 1, none⟩ = some (.slice ao an ac) ∧ W.cell? ⟨w.heap.size + 1, 0, none⟩ = some (.slice to tn tc) ∧ W.cell? ⟨w.heap.size + 1, 1, none⟩ = some (.slice bo bn bc) ∧ W.cell? ⟨w.heap.size + 1 + 1, 0, none⟩ = some (.slice uo un uc) ∧ W.cell? ⟨w.heap.size + 1 + 1, 1, none⟩ = some (.slice co cn cc) ∧ Tri w W w.heap.size (w.heap.size + 1) (w.heap.size + 1 + 1) so sn sc ao an ac to tn tc bo bn bc uo un uc co cn cc s a t b u c) → Calls Try.prog 25 #[.agg #[.slice so sn sc, .slice ao an ac], .agg #[.slice uo un uc, .slice co cn cc]] W fun e w' => e = .returned (.int .i64 (cmpA s a u c)) ∧ Tri w w' w.heap.size (w.heap.size + 1) (w.heap.size + 1 + 1) so sn sc ao an ac to tn tc bo bn bc uo un uc co cn cc s a t b u c := fun W h =>
    have T := h.2.2.2.2.2.2
    (cmpA_any so ao uo co sn sc an ac un uc cn cc s a u c W T.x.s T.x.a T.z.s T.z.a).mono fun e w' ⟨h1, h2⟩ => ⟨h1, T.below h2⟩
  have cba : ∀ W, (W.cell? ⟨w.heap.size, 0, none⟩ = some (.slice so sn sc) ∧ W.cell? ⟨w.heap.size, 1, none⟩ = some (.slice ao an ac) ∧ W.cell? ⟨w.heap.size + 1, 0, none⟩ = some (.slice to tn tc) ∧ W.cell? ⟨w.heap.size + 1, 1, none⟩ = some (.slice bo bn bc) ∧ W.cell? ⟨w.heap.size + 1 + 1, 0, none⟩ = some (.slice uo un uc) ∧ W.cell? ⟨w.heap.size + 1 + 1, 1, none⟩ = some (.slice co cn cc) ∧ Tri w W w.heap.size (w.heap.size + 1) (w.heap.size + 1 + 1) so sn sc ao an ac to tn tc bo bn bc uo un uc co cn cc s a t b u c) → Calls Try.prog 25 #[.agg #[.slice to tn tc, .slice bo bn bc], .agg #[.slice so sn sc, .slice ao an ac]] W fun e w' => e = .returned (.int .i64 (cmpA t b s a)) ∧ Tri w w' w.heap.size (w.heap.size + 1) (w.heap.size + 1 + 1) so sn sc ao an ac to tn tc bo bn bc uo un uc co cn cc s a t b u c := fun W h =>
    have T := h.2.2.2.2.2.2
    (cmpA_any to bo so ao tn tc bn bc sn sc an ac t b s a W T.y.s T.y.a T.x.s T.x.a).mono fun e w' ⟨h1, h2⟩ => ⟨h1, T.below h2⟩
  have caa : ∀ W, (W.cell? ⟨w.heap.size, 0, none⟩ = some (.slice so sn sc) ∧ W.cell? ⟨w.heap.size, 1, none⟩ = some (.slice ao an ac) ∧ W.cell? ⟨w.heap.size + 1, 0, none⟩ = some (.slice to tn tc) ∧ W.cell? ⟨w.heap.size + 1, 1, none⟩ = some (.slice bo bn bc) ∧ W.cell? ⟨w.heap.size + 1 + 1, 0, none⟩ = some (.slice uo un uc) ∧ W.cell? ⟨w.heap.size + 1 + 1, 1, none⟩ = some (.slice co cn cc) ∧ Tri w W w.heap.size (w.heap.size + 1) (w.heap.size + 1 + 1) so sn sc ao an ac to tn tc bo bn bc uo un uc co cn cc s a t b u c) → Calls Try.prog 25 #[.agg #[.slice so sn sc, .slice ao an ac], .agg #[.slice so sn sc, .slice ao an ac]] W fun e w' => e = .returned (.int .i64 (cmpA s a s a)) ∧ Tri w w' w.heap.size (w.heap.size + 1) (w.heap.size + 1 + 1) so sn sc ao an ac to tn tc bo bn bc uo un uc co cn cc s a t b u c := fun W h =>
    have T := h.2.2.2.2.2.2
    (cmpA_any so ao so ao sn sc an ac sn sc an ac s a s a W T.x.s T.x.a T.x.s T.x.a).mono fun e w' ⟨h1, h2⟩ => ⟨h1, T.below h2⟩
  have sab : ∀ W, (W.cell? ⟨w.heap.size, 0, none⟩ = some (.slice so sn sc) ∧ W.cell? ⟨w.heap.size, 1, none⟩ = some (.slice ao an ac) ∧ W.cell? ⟨w.heap.size + 1, 0, none⟩ = some (.slice to tn tc) ∧ W.cell? ⟨w.heap.size + 1, 1, none⟩ = some (.slice bo bn bc) ∧ W.cell? ⟨w.heap.size + 1 + 1, 0, none⟩ = some (.slice uo un uc) ∧ W.cell? ⟨w.heap.size + 1 + 1, 1, none⟩ = some (.slice co cn cc) ∧ Tri w W w.heap.size (w.heap.size + 1) (w.heap.size + 1 + 1) so sn sc ao an ac to tn tc bo bn bc uo un uc co cn cc s a t b u c) → Calls Try.prog 23 #[.agg #[.slice so sn sc, .slice ao an ac], .agg #[.slice to tn tc, .slice bo bn bc]] W fun e w' => e = .returned (.bool (eqA s a t b)) ∧ Tri w w' w.heap.size (w.heap.size + 1) (w.heap.size + 1 + 1) so sn sc ao an ac to tn tc bo bn bc uo un uc co cn cc s a t b u c := fun W h =>
    have T := h.2.2.2.2.2.2
    (same_any so ao to bo sn sc an ac tn tc bn bc s a t b W T.x.s T.x.a T.y.s T.y.a).mono fun e w' ⟨h1, h2⟩ => ⟨h1, T.below h2⟩
  have eab : ∀ W, (W.cell? ⟨w.heap.size, 0, none⟩ = some (.slice so sn sc) ∧ W.cell? ⟨w.heap.size, 1, none⟩ = some (.slice ao an ac) ∧ W.cell? ⟨w.heap.size + 1, 0, none⟩ = some (.slice to tn tc) ∧ W.cell? ⟨w.heap.size + 1, 1, none⟩ = some (.slice bo bn bc) ∧ W.cell? ⟨w.heap.size + 1 + 1, 0, none⟩ = some (.slice uo un uc) ∧ W.cell? ⟨w.heap.size + 1 + 1, 1, none⟩ = some (.slice co cn cc) ∧ Tri w W w.heap.size (w.heap.size + 1) (w.heap.size + 1 + 1) so sn sc ao an ac to tn tc bo bn bc uo un uc co cn cc s a t b u c) → Calls Try.prog 24 #[.agg #[.slice so sn sc, .slice ao an ac], .agg #[.slice to tn tc, .slice bo bn bc]] W fun e w' => e = .returned (.bool (eqA s a t b)) ∧ Tri w w' w.heap.size (w.heap.size + 1) (w.heap.size + 1 + 1) so sn sc ao an ac to tn tc bo bn bc uo un uc co cn cc s a t b u c := fun W h =>
    have T := h.2.2.2.2.2.2
    (eq_any so ao to bo sn sc an ac tn tc bn bc s a t b W T.x.s T.x.a T.y.s T.y.a).mono fun e w' ⟨h1, h2⟩ => ⟨h1, T.below h2⟩
  have OZ := order_z (cmpA_T3 s a t b u c) (cmpA_bd s a u c) (cmpA_bd s a t b) (cmpA_bd t b u c)
  have bx := cmpA_bd s a t b
  have e0 := cmpA_zero s a t b
  have e1 := eqA_iff s a t b
  rw [cmpA_anti s a t b] at cba
  rw [(cmpA_zero s a s a).2 ⟨rfl, rfl⟩] at caa
  generalize cmpA s a t b = x at *
  generalize cmpA t b u c = y at *
  generalize cmpA s a u c = z at *
  generalize eqA s a t b = q at *
  have hx : (x = -1 ∧ q = false) ∨ (x = 0 ∧ q = true) ∨ (x = 1 ∧ q = false) := by
    rw [← e0] at e1
    cases q
    · simp at e1; rcases (by omega : x = -1 ∨ x = 0 ∨ x = 1) with h | h | h
      · exact .inl ⟨h, rfl⟩
      · exact absurd h e1
      · exact .inr (.inr ⟨h, rfl⟩)
    · simp at e1; exact .inr (.inl ⟨e1, rfl⟩)
  have HO : Hid ((x = 0 ∧ y = 0 ∧ z = 0) ∨ ((x = 0 ∧ y = -1 ∨ x = -1 ∧ y = 0 ∨ x = -1 ∧ y = -1) ∧ z = -1) ∨ ((x = 0 ∧ y = 1 ∨ x = 1 ∧ y = 0 ∨ x = 1 ∧ y = 1) ∧ z = 1) ∨ (x = -1 ∧ y = 1) ∨ (x = 1 ∧ y = -1)) := OZ
  clear OZ bx e0 e1
  rcases hx with ⟨rfl, rfl⟩ | ⟨rfl, rfl⟩ | ⟨rfl, rfl⟩
  all_goals
    have wn1 : IntKind.i64.wrap 1 = 1 := wrapIn _ (by omega)
    have wn2 : IntKind.i64.wrap (-1) = -1 := wrapIn _ (by omega)
    have wn3 : IntKind.i64.wrap 0 = 0 := wrapIn _ (by omega)
    (try simp only [Int.reduceNeg, Int.neg_neg, Int.neg_zero] at cba)
    go_enter Try.func7, Try.ntmps7
    go_wp2_with (go_at_call 18; refine (begun3_any _).mono ?_; rintro e w1 ⟨rfl, h1⟩; have T1 := T0.below h1; clear h1)
    go_region_held3 (fun W => W.cell? ⟨w.heap.size, 0, none⟩ = some (.slice so sn sc) ∧ W.cell? ⟨w.heap.size, 1, none⟩ = some (.slice ao an ac) ∧ W.cell? ⟨w.heap.size + 1, 0, none⟩ = some (.slice to tn tc) ∧ W.cell? ⟨w.heap.size + 1, 1, none⟩ = some (.slice bo bn bc) ∧ W.cell? ⟨w.heap.size + 1 + 1, 0, none⟩ = some (.slice uo un uc) ∧ W.cell? ⟨w.heap.size + 1 + 1, 1, none⟩ = some (.slice co cn cc) ∧ Tri w W w.heap.size (w.heap.size + 1) (w.heap.size + 1 + 1) so sn sc ao an ac to tn tc bo bn bc uo un uc co cn cc s a t b u c) (first | exact Tri.all (by assumption) | exact Tri.all (Tri.drew (by assumption)))
      (first
        | (go_at_call 25; (with_reducible refine (cab _ (by assumption)).mono ?_); rintro e w2 ⟨rfl, T2⟩)
        | (go_at_call 25; (with_reducible refine (cbc _ (by assumption)).mono ?_); rintro e w2 ⟨rfl, T2⟩)
        | (go_at_call 25; (with_reducible refine (cac _ (by assumption)).mono ?_); rintro e w2 ⟨rfl, T2⟩))
    rename_i T2
    replace T2 := T2.2.2.2.2.2.2
    go_wp2
    go_region_held3 (fun W => W.cell? ⟨w.heap.size, 0, none⟩ = some (.slice so sn sc) ∧ W.cell? ⟨w.heap.size, 1, none⟩ = some (.slice ao an ac) ∧ W.cell? ⟨w.heap.size + 1, 0, none⟩ = some (.slice to tn tc) ∧ W.cell? ⟨w.heap.size + 1, 1, none⟩ = some (.slice bo bn bc) ∧ W.cell? ⟨w.heap.size + 1 + 1, 0, none⟩ = some (.slice uo un uc) ∧ W.cell? ⟨w.heap.size + 1 + 1, 1, none⟩ = some (.slice co cn cc) ∧ Tri w W w.heap.size (w.heap.size + 1) (w.heap.size + 1 + 1) so sn sc ao an ac to tn tc bo bn bc uo un uc co cn cc s a t b u c) (first | exact Tri.all (by assumption) | exact Tri.all (Tri.drew (by assumption)))
      (first
        | (go_at_call 25; (with_reducible refine (cba _ (by assumption)).mono ?_); rintro e w2 ⟨rfl, T2⟩)
        | (go_at_call 25; (with_reducible refine (caa _ (by assumption)).mono ?_); rintro e w2 ⟨rfl, T2⟩)
        | (go_at_call 23; (with_reducible refine (sab _ (by assumption)).mono ?_); rintro e w2 ⟨rfl, T2⟩)
        | (go_at_call 24; (with_reducible refine (eab _ (by assumption)).mono ?_); rintro e w2 ⟨rfl, T2⟩))
    rename_i T3
    have bel := T3.2.2.2.2.2.2.bel
    clear T3 T2 T1 T0 cab cbc cac cba caa sab eab
    rcases HO.out with ⟨_, rfl, rfl⟩ | ⟨⟨e1, rfl⟩ | ⟨e1, rfl⟩ | ⟨e1, rfl⟩, rfl⟩ | ⟨⟨e1, rfl⟩ | ⟨e1, rfl⟩ | ⟨e1, rfl⟩, rfl⟩ | ⟨e1, rfl⟩ | ⟨e1, rfl⟩
    all_goals first
      | (exfalso; omega)
      | (clear HO; go_wp2; go_ret; exact ⟨rfl, bel⟩)
end Go.Proofs.Ytaobchjdeeijcaa
