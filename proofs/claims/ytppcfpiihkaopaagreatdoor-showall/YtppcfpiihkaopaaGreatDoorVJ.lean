
/- Contract of shaped. -/

import Derived.Test.YtppcfpiihkaopaaGreatDoorVH

import Derived.Deep.RegionHeld3

namespace Go.Proofs.YtppcfpiihkaopaaGreatDoor

open Go.RowKit

set_option linter.unusedVariables false

/-- What a reading answers: an array, a place, an error; the rows from block B on. -/
def AnsR (w : World) (B : Nat) (S A : List Int) (p E : Int) (e : Ending) (w' : World) : Prop := ∃ o1 n1 c1 o2 n2 c2, e = .returned (.tuple #[.agg #[.slice o1 n1 c1, .slice o2 n2 c2], .int .i64 p, .int .i64 E]) ∧ Ft 3 w' B o1 n1 c1 S ∧ Ft 2 w' B o2 n2 c2 A ∧ Below w.heap.size w w'
def ShAns (w : World) (B : Nat) (L N : List Int) (d : Int) (e : Ending) (w' : World) : Prop := if bareB L N then AnsR w B [] [] d 37 e w' else AnsR w B L N 0 0 e w'
theorem ansR_none {w w' : World} {B : Nat} {p E : Int} {e : Ending} (he : e = .returned (.tuple #[.agg #[.slice none 0 0, .slice none 0 0], .int .i64 p, .int .i64 E])) (k : Below w.heap.size w w') : AnsR w B [] [] p E e w' :=
  ⟨none, 0, 0, none, 0, 0, he, Ft.nil _ _ _, Ft.nil _ _ _, k⟩
theorem ft_box2 {e t : TypeId} {w : World} {B b : Nat} {ao : Option Addr} {n cap : Nat} {zs : List Int} (h : Ft e w B ao n cap zs) {cur : Array Value} (hb : w.heap[b]? = some (.cells cur t (0, 0))) (hne : e ≠ t) (x y : Value) : Ft e ((w.setCell ⟨b, 0, none⟩ x).setCell ⟨b, 1, none⟩ y) B ao n cap zs :=
  (h.kind (set1 w b 0 x) hb hne).kind (set1 _ b 1 y) (heap_setCell_same w b 0 _ t x hb) hne
set_option maxHeartbeats 2000000 in
theorem shaped_none (W : World) (B g : Nat) (s : List UInt8) (a f : Nat) (d : Int) (lo : Option Addr) (lc : Nat) (L : List Int) (no : Option Addr) (nn nc : Nat) (N : List Int) (h : Rdr W B g s a f d lo 0 lc L no nn nc N) :
    Calls Tryz.prog 47 #[.pointer (some ⟨g, 0, none⟩)] W fun e W' => AnsR W B [] [] d 37 e W' := by
  have k0 := box_below W (.cells #[.slice none 0 0, .slice none 0 0] 36)
  have R0 := h.below k0
  have z0 := allocNew W (.cells #[.slice none 0 0, .slice none 0 0] 36)
  obtain ⟨c0, c1, c2, c3, c4, c5, _⟩ := box6 R0.row
  obtain ⟨y0, y1, y2, y3⟩ := box2 z0
  clear R0 h
  go_enter Tryz.func47, Tryz.ntmps47
  go_wp2
  go_region
  go_wp2
  refine bodyPost_ret (v := .tuple #[.agg #[.slice none 0 0, .slice none 0 0], .int .i64 d, .int .i64 37]) (by simp [results, Tryz.results47]; go_simp) rfl ?_
  exact ansR_none rfl k0.drew
set_option maxHeartbeats 2000000 in
theorem shaped_size (W : World) (B g : Nat) (s : List UInt8) (a f : Nat) (d : Int) (lo : Option Addr) (ln lc : Nat) (L : List Int) (no : Option Addr) (nn nc : Nat) (N : List Int) (h : Rdr W B g s a f d lo ln lc L no nn nc N) (hln : 0 < ln) (hm : mayF L ≠ 0) :
    Calls Tryz.prog 47 #[.pointer (some ⟨g, 0, none⟩)] W fun e W' => AnsR W B [] [] 0 17 e W' := by
  have k0 := box_below W (.cells #[.slice none 0 0, .slice none 0 0] 36)
  have R0 := h.below k0
  have z0 := allocNew W (.cells #[.slice none 0 0, .slice none 0 0] 36)
  obtain ⟨c0, c1, c2, c3, c4, c5, cz⟩ := box6 R0.row
  obtain ⟨y0, y1, y2, y3⟩ := box2 z0
  have t0 : ((ln : Int) == 0) = false := by simp; omega
  have t0' : (ln == 0) = false := by simp; omega
  have t0'' : ¬ ln = 0 := by omega
  have cS := size_any lo ln lc L _ R0.fl.rd
  have t1 : (mayF L != 0) = true := by simpa using hm
  clear R0 h hm
  go_enter Tryz.func47, Tryz.ntmps47
  go_wp2_with (go_at_call 36; (with_reducible refine cS.mono ?_); rintro e w1 ⟨rfl, hw⟩; rw [hw]; clear hw w1)
  refine bodyPost_ret (v := .tuple #[.agg #[.slice none 0 0, .slice none 0 0], .int .i64 0, .int .i64 17]) (by simp [results, Tryz.results47]; go_simp) rfl ?_
  exact ansR_none rfl k0
set_option maxHeartbeats 2000000 in
theorem shaped_len (W : World) (B g : Nat) (s : List UInt8) (a f : Nat) (d : Int) (lo : Option Addr) (ln lc : Nat) (L : List Int) (no : Option Addr) (nn nc : Nat) (N : List Int) (h : Rdr W B g s a f d lo ln lc L no nn nc N) (hln : 0 < ln) (hm : mayF L = 0) (hn : (nn : Int) ≠ pr L) :
    Calls Tryz.prog 47 #[.pointer (some ⟨g, 0, none⟩)] W fun e W' => AnsR W B [] [] (s.length : Int) 11 e W' := by
  have k0 := box_below W (.cells #[.slice none 0 0, .slice none 0 0] 36)
  have R0 := h.below k0
  have z0 := allocNew W (.cells #[.slice none 0 0, .slice none 0 0] 36)
  obtain ⟨c0, c1, c2, c3, c4, c5, cz⟩ := box6 R0.row
  obtain ⟨y0, y1, y2, y3⟩ := box2 z0
  have t0 : ((ln : Int) == 0) = false := by simp; omega
  have t0' : (ln == 0) = false := by simp; omega
  have t0'' : ¬ ln = 0 := by omega
  have cS := size_any lo ln lc L _ R0.fl.rd
  rw [sizeF_ok hm, hm] at cS
  have t1 : ((nn : Int) != pr L) = true := by simpa using hn
  generalize pr L = pl at cS t1 hn
  clear R0 h hm hn
  go_enter Tryz.func47, Tryz.ntmps47
  go_wp2_with (go_at_call 36; (with_reducible refine cS.mono ?_); rintro e w1 ⟨rfl, hw⟩; rw [hw]; clear hw w1)
  go_region
  go_wp2
  refine bodyPost_ret (v := .tuple #[.agg #[.slice none 0 0, .slice none 0 0], .int .i64 (s.length : Int), .int .i64 11]) (by simp [results, Tryz.results47]; go_simp) rfl ?_
  exact ansR_none rfl k0.drew
set_option maxHeartbeats 4000000 in
theorem shaped_in (W : World) (B g : Nat) (s : List UInt8) (a f : Nat) (d : Int) (lo : Option Addr) (ln lc : Nat) (L : List Int) (no : Option Addr) (nn nc : Nat) (N : List Int) (h : Rdr W B g s a f d lo ln lc L no nn nc N) (hln : 0 < ln) (hm : mayF L = 0) (hn : (nn : Int) = pr L) :
    Calls Tryz.prog 47 #[.pointer (some ⟨g, 0, none⟩)] W fun e W' => ShAns W B L N d e W' := by
  have k0 := box_below W (.cells #[.slice none 0 0, .slice none 0 0] 36)
  have R0 := h.below k0
  have z0 := allocNew W (.cells #[.slice none 0 0, .slice none 0 0] 36)
  obtain ⟨c0, c1, c2, c3, c4, c5, cz⟩ := box6 R0.row
  obtain ⟨y0, y1, y2, y3⟩ := box2 z0
  have t0 : ((ln : Int) == 0) = false := by simp; omega
  have t0' : (ln == 0) = false := by simp; omega
  have t0'' : ¬ ln = 0 := by omega
  have cS := size_any lo ln lc L _ R0.fl.rd
  rw [sizeF_ok hm, hm, ← hn] at cS
  have HX := R0
  clear R0 hm hn
  go_enter Tryz.func47, Tryz.ntmps47
  go_wp2_with (go_at_call 36; (with_reducible refine cS.mono ?_); rintro e w1 ⟨rfl, hw⟩; rw [hw]; clear hw w1)
  have ALLS : ∀ V, Below (W.alloc (.cells #[.slice none 0 0, .slice none 0 0] 36)).heap.size (W.alloc (.cells #[.slice none 0 0, .slice none 0 0] 36)) V → V.cell? ⟨g, 4, none⟩ = some (.slice lo ln lc) ∧ V.cell? ⟨g, 5, none⟩ = some (.slice no nn nc) ∧ Below (W.alloc (.cells #[.slice none 0 0, .slice none 0 0] 36)).heap.size (W.alloc (.cells #[.slice none 0 0, .slice none 0 0] 36)) V := fun V k => by
    obtain ⟨x0, x1, x2, x3, x4, x5, _⟩ := box6 (HX.below k).row
    exact ⟨x4, x5, k⟩
  generalize W.alloc (.cells #[.slice none 0 0, .slice none 0 0] 36) = W1 at *
  go_region_held3 (fun V => V.cell? ⟨g, 4, none⟩ = some (.slice lo ln lc) ∧ V.cell? ⟨g, 5, none⟩ = some (.slice no nn nc) ∧ Below W1.heap.size W1 V) (first | exact ALLS _ (by assumption) | exact ALLS _ (Below.refl _ _).drew | exact ALLS _ (box_below W1 _).drew | exact ALLS _ (box_below W1 _) | exact ALLS _ (below_set2 _ _ _ _ (box_below W1 _).drew (Nat.le_refl _) (Nat.le_refl _))) (fail)
  have k2 : Below W1.heap.size W1 ((W1.alloc (.cells #[.slice lo ln lc, .slice no nn nc] 36)).drew) := (box_below W1 _).drew
  have R2 := HX.below k2
  have z2 : ((W1.alloc (.cells #[.slice lo ln lc, .slice no nn nc] 36)).drew).heap[W1.heap.size]? = _ := allocNew W1 (.cells #[.slice lo ln lc, .slice no nn nc] 36)
  obtain ⟨x0, x1, x2, x3⟩ := box2 z2
  have zr := (k2.block W.heap.size (Array.getElem?_eq_some_iff.1 z0).1).trans z0
  have cB := isBare_any lo no ln lc nn nc L N _ R2.fl.rd R2.fn.rd
  generalize ((W1.alloc (.cells #[.slice lo ln lc, .slice no nn nc] 36)).drew) = W2 at *
  have K2 := k0.trans (k2.mono k0.size)
  have hgl := (Array.getElem?_eq_some_iff.1 h.row).1
  by_cases hb : bareB L N
  · have HB : Hid (bareB L N) := hb
    rw [bareb_yes hb] at cB
    clear hb
    go_upto_region 10 with (go_at_call 21; (with_reducible refine cB.mono ?_); rintro e w3 ⟨rfl, k3⟩; have R3 := R2.below k3; have K3 := K2.trans (k3.mono K2.size); obtain ⟨u0, u1, u2, u3, u4, u5, _⟩ := box6 R3.row; obtain ⟨v0, v1, v2, v3⟩ := box2 ((k3.block W.heap.size (Array.getElem?_eq_some_iff.1 zr).1).trans zr))
    go_region
    go_wp2
    refine bodyPost_ret (v := .tuple #[.agg #[.slice none 0 0, .slice none 0 0], .int .i64 d, .int .i64 37]) (by simp [results, Tryz.results47]; go_simp) rfl ?_
    unfold ShAns
    rw [if_pos HB.out]
    exact ansR_none rfl (below_set2 _ _ _ _ K3.drew (Nat.le_refl _) (Nat.le_refl _))
  · have HB : Hid (¬ bareB L N) := hb
    rw [bareb_no hb] at cB
    clear hb
    go_wp2_with (go_at_call 21; (with_reducible refine cB.mono ?_); rintro e w3 ⟨rfl, k3⟩; have R3 := R2.below k3; have K3 := K2.trans (k3.mono K2.size); obtain ⟨u0, u1, u2, u3⟩ := box2 ((k3.block W1.heap.size (Array.getElem?_eq_some_iff.1 z2).1).trans z2); have zq := (k3.block W.heap.size (Array.getElem?_eq_some_iff.1 zr).1).trans zr; obtain ⟨v0, v1, v2, v3⟩ := box2 zq)
    refine bodyPost_ret (v := .tuple #[.agg #[.slice lo ln lc, .slice no nn nc], .int .i64 0, .int .i64 0]) (by simp [results, Tryz.results47]; go_simp) rfl ?_
    unfold ShAns
    rw [if_neg HB.out]
    refine ⟨lo, ln, lc, no, nn, nc, rfl, ?_, ?_, below_set2 _ _ _ _ K3 (Nat.le_refl _) (Nat.le_refl _)⟩
    · exact ft_box2 R3.fl zq (by decide) _ _
    · exact ft_box2 R3.fn zq (by decide) _ _
end Go.Proofs.YtppcfpiihkaopaaGreatDoor
