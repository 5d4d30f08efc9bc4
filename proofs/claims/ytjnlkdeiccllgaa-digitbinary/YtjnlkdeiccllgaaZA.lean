
/- Rows that are made and filled, boxes of arrays, and what package digit asks of package num. -/

import Derived.Test.YtjnlkdeiccllgaaA11
import Derived.Test.YtjnlkdeiccllgaaC8
import Derived.Test.YtjnlkdeiccllgaaNDivs
import Derived.Lib.JoinLaws
import Derived.Deep.RegionHeld3
import Derived.RegionTactic






namespace Go.Proofs.Ytjnlkdeiccllgaa

open Go.RowKit

set_option linter.unusedVariables false

theorem wrZ {z : Int} (h1 : -9223372036854775808 ≤ z) (h2 : z ≤ 9223372036854775807) : IntKind.i64.wrap z = z := wrapIn _ (by omega)
theorem nth_setL {zs : List Int} {j k : Nat} {u : Int} (hj : j < zs.length) : nth (zs.set j u) k = if k = j then u else nth zs k := by
  unfold nth
  by_cases h : k = j
  · subst h; simp [hj]
  · rw [if_neg h, List.getD_eq_getElem?_getD, List.getD_eq_getElem?_getD, List.getElem?_set_ne (fun e => h e.symm)]
theorem Ft.setT {e : TypeId} {w : World} {B g : Nat} {n cap : Nat} {zs : List Int} (h : Ft e w B (some ⟨g, 0, none⟩) n cap zs) (j : Nat) (hj : j < n) (u : Int) (h1 : -9223372036854775808 ≤ u) (h2 : u ≤ 9223372036854775807) :
    Ft e (w.setCell ⟨g, j, none⟩ (.int .i64 u)) B (some ⟨g, 0, none⟩) n cap (zs.set j u) := by
  have hl := h.rd.len
  have hs := (h.own.stored j (.int .i64 u)).1
  rw [show (zs.map (Value.int .i64)).set j (.int .i64 u) = (zs.set j u).map (Value.int .i64) by rw [List.map_set]] at hs
  obtain ⟨ao, c, e, hf⟩ := Ft.mk' (zs := zs.set j u) (by rw [List.length_set]; exact hl) h.rd.room (fun k hk => by
    rw [nth_setL (by omega)]
    split
    · exact ⟨h1, h2⟩
    · exact h.rd.num k hk) hs
  cases e
  exact hf
theorem made_ftT (e : TypeId) (w : World) (n : Nat) (hr : n * 8 ≤ 140737488351232) : Ft e (w.alloc (.cells (madeCells #[.int .i64 0] n) e)) w.heap.size (some ⟨w.heap.size, 0, none⟩) n n (List.replicate n 0) := by
  have hown : (w.alloc (.cells (madeCells #[.int .i64 0] n) e)).ownsRow w.heap.size e 1 (.slice (some ⟨w.heap.size, 0, none⟩) n n) n ((List.replicate n 0).map (Value.int .i64)) := by
    refine ⟨by simp, .inr ⟨w.heap.size, n, madeCells #[.int .i64 0] n, rfl, by omega, allocNew _ _, Nat.le_refl _, by unfold maxLen; omega, by simp [madeCells], ?_⟩⟩
    rw [Nat.mul_one]
    apply List.ext_getElem
    · simp [madeCells]
    · intro i h1 h2; simp [madeCells, Nat.mod_one]
  obtain ⟨a, c, e, hf⟩ := Ft.mk' (zs := List.replicate n 0) (by simp) hr (fun k hk => by simp [nth, hk]) hown
  cases e
  exact hf
theorem room_ftT (e : TypeId) (w : World) (n : Nat) (hr : n * 8 ≤ 140737488351232) : Ft e (w.alloc (.cells (madeCells #[.int .i64 0] n) e)) w.heap.size (some ⟨w.heap.size, 0, none⟩) 0 n [] := by
  obtain ⟨cur, hcur⟩ := arr_list (madeCells #[.int .i64 0] n)
  have hl := size_madeCells #[.int .i64 0] n
  have hn := allocNew w (.cells (madeCells #[.int .i64 0] n) e)
  rw [hcur] at hl hn ⊢
  exact Ft.row hn (Nat.le_refl _) rfl (by omega) (fun k hk => by omega) (Nat.zero_le _) (by unfold maxLen; omega) (by simpa using hl) rfl
/-- A row that is being filled: its first k are f's; below it nothing has changed. -/
structure RwT (e : TypeId) (W V : World) (n k : Nat) (f : Nat → Int) : Prop where
  bel : Below W.heap.size W V
  row : ∃ zs, Ft e V W.heap.size (some ⟨W.heap.size, 0, none⟩) n n zs ∧ (∀ j, j < k → nth zs j = f j) ∧ ∀ j, k ≤ j → j < n → nth zs j = 0
theorem RwT.start (e : TypeId) (W : World) (n : Nat) (f : Nat → Int) (hr : n * 8 ≤ 140737488351232) : RwT e W (W.alloc (.cells (madeCells #[.int .i64 0] n) e)) n 0 f :=
  ⟨box_below W _, _, made_ftT e W n hr, fun j hj => by omega, fun j _ hj => by simp [nth, hj]⟩
theorem RwT.below {e : TypeId} {W V V' : World} {n k : Nat} {f : Nat → Int} (h : RwT e W V n k f) (b : Below V.heap.size V V') : RwT e W V' n k f := by
  obtain ⟨zs, hf, hz⟩ := h.row
  exact ⟨h.bel.trans (b.mono h.bel.size), zs, hf.below b (Nat.le_refl _), hz⟩
theorem RwT.slot {e : TypeId} {W V : World} {n k : Nat} {f : Nat → Int} (h : RwT e W V n k f) (j : Nat) (hj : j < n) : ∃ u, V.cell? ⟨W.heap.size, j, none⟩ = some u ∧ V.frozen? ⟨W.heap.size, j, none⟩ = false := by
  obtain ⟨zs, hf, hz⟩ := h.row
  obtain ⟨b, off, e, hb, hc⟩ := hf.rd.cells (by omega)
  cases e
  have c := hc j hj
  rw [Nat.zero_add] at c
  rcases hf.own.2 with ⟨e1, h0⟩ | ⟨g, c, cur, e1, hB2, hg, r⟩
  · cases e1
  · cases e1
    exact ⟨_, c, frozen_of_row V W.heap.size j _ _ hg⟩
theorem RwT.set {e : TypeId} {W V : World} {n k : Nat} {f : Nat → Int} (h : RwT e W V n k f) (hk : k < n) (h1 : -9223372036854775808 ≤ f k) (h2 : f k ≤ 9223372036854775807) : RwT e W (V.setCell ⟨W.heap.size, k, none⟩ (.int .i64 (f k))) n (k + 1) f := by
  obtain ⟨zs, hf, hz, hr⟩ := h.row
  refine ⟨h.bel.setCell (p := ⟨W.heap.size, k, none⟩) (Nat.le_refl _) _, _, hf.setT k hk (f k) h1 h2, fun j hj => ?_, fun j hj hj2 => ?_⟩
  · rw [nth_setL (by rw [hf.rd.len]; exact hk)]
    split
    · rename_i e; rw [e]
    · exact hz j (by omega)
  · rw [nth_setL (by rw [hf.rd.len]; exact hk), if_neg (by omega)]
    exact hr j (by omega) hj2
theorem RwT.skip {e : TypeId} {W V : World} {n k : Nat} {f : Nat → Int} (h : RwT e W V n k f) (hk : k < n) (h0 : f k = 0) : RwT e W V n (k + 1) f := by
  obtain ⟨zs, hf, hz, hr⟩ := h.row
  refine ⟨h.bel, zs, hf, fun j hj => ?_, fun j hj hj2 => hr j (by omega) hj2⟩
  rcases Nat.lt_succ_iff_lt_or_eq.1 hj with h | h
  · exact hz j h
  · rw [h, h0]; exact hr k (Nat.le_refl _) hk
theorem RwT.all {e : TypeId} {W V : World} {n : Nat} {f : Nat → Int} (h : RwT e W V n n f) (ys : List Int) (hl : ys.length = n) (hy : ∀ j, j < n → nth ys j = f j) : Ft e V W.heap.size (some ⟨W.heap.size, 0, none⟩) n n ys := by
  obtain ⟨zs, hf, hz, hr⟩ := h.row
  have e : zs = ys := ext_nth (by rw [hf.rd.len, hl]) (fun k hk => by rw [hf.rd.len] at hk; rw [hz k hk, hy k hk])
  rw [← e]; exact hf

/-- One array in its box, and a box for the answer. -/
structure UnQ (w W : World) (so : Option Addr) (sn sc : Nat) (ao : Option Addr) (an ac : Nat) : Prop where
  x : W.heap[w.heap.size]? = some (.cells #[.slice so sn sc, .slice ao an ac] 26 (0, 0))
  r : W.heap[w.heap.size + 1]? = some (.cells #[.slice none 0 0, .slice none 0 0] 26 (0, 0))
  bel : Below w.heap.size w W
theorem UnQ.sz {w W : World} {so : Option Addr} {sn sc : Nat} {ao : Option Addr} {an ac : Nat} (h : UnQ w W so sn sc ao an ac) : w.heap.size + 2 ≤ W.heap.size := by
  have := (Array.getElem?_eq_some_iff.1 h.r).1
  omega
theorem UnQ.below {w W W' : World} {so : Option Addr} {sn sc : Nat} {ao : Option Addr} {an ac B : Nat} (h : UnQ w W so sn sc ao an ac) (k : Below B W W') (hB : w.heap.size + 2 ≤ B) : UnQ w W' so sn sc ao an ac :=
  ⟨(k.block _ (by omega)).trans h.x, (k.block _ (by omega)).trans h.r, h.bel.trans (k.mono (by omega))⟩
theorem un_startQ (w : World) (so : Option Addr) (sn sc : Nat) (ao : Option Addr) (an ac : Nat) :
    UnQ w ((w.alloc (.cells #[.slice so sn sc, .slice ao an ac] 26)).alloc (.cells #[.slice none 0 0, .slice none 0 0] 26)) so sn sc ao an ac := by
  have k1 := box_below w (.cells #[.slice so sn sc, .slice ao an ac] 26)
  have b1 := allocNew w (.cells #[.slice so sn sc, .slice ao an ac] 26)
  have k2 := box_below (w.alloc (.cells #[.slice so sn sc, .slice ao an ac] 26)) (.cells #[.slice none 0 0, .slice none 0 0] 26)
  have b2 := allocNew (w.alloc (.cells #[.slice so sn sc, .slice ao an ac] 26)) (.cells #[.slice none 0 0, .slice none 0 0] 26)
  simp only [World.size_alloc] at k2 b2
  exact ⟨(k2.block _ (by omega)).trans b1, b2, k1.trans (k2.mono (by omega))⟩
/-- Two arrays in their boxes, and a box for the answer. -/
structure DuQ (w W : World) (so : Option Addr) (sn sc : Nat) (ao : Option Addr) (an ac : Nat) (uo : Option Addr) (un uc : Nat) (bo : Option Addr) (bn bc : Nat) : Prop where
  x : W.heap[w.heap.size]? = some (.cells #[.slice so sn sc, .slice ao an ac] 26 (0, 0))
  y : W.heap[w.heap.size + 1]? = some (.cells #[.slice uo un uc, .slice bo bn bc] 26 (0, 0))
  r : W.heap[w.heap.size + 1 + 1]? = some (.cells #[.slice none 0 0, .slice none 0 0] 26 (0, 0))
  bel : Below w.heap.size w W
theorem DuQ.sz {w W : World} {so : Option Addr} {sn sc : Nat} {ao : Option Addr} {an ac : Nat} {uo : Option Addr} {un uc : Nat} {bo : Option Addr} {bn bc : Nat} (h : DuQ w W so sn sc ao an ac uo un uc bo bn bc) : w.heap.size + 3 ≤ W.heap.size := by
  have := (Array.getElem?_eq_some_iff.1 h.r).1
  omega
theorem DuQ.below {w W W' : World} {so : Option Addr} {sn sc : Nat} {ao : Option Addr} {an ac : Nat} {uo : Option Addr} {un uc : Nat} {bo : Option Addr} {bn bc B : Nat} (h : DuQ w W so sn sc ao an ac uo un uc bo bn bc) (k : Below B W W') (hB : w.heap.size + 3 ≤ B) : DuQ w W' so sn sc ao an ac uo un uc bo bn bc :=
  ⟨(k.block _ (by omega)).trans h.x, (k.block _ (by omega)).trans h.y, (k.block _ (by omega)).trans h.r, h.bel.trans (k.mono (by omega))⟩
theorem du_startQ (w : World) (so : Option Addr) (sn sc : Nat) (ao : Option Addr) (an ac : Nat) (uo : Option Addr) (un uc : Nat) (bo : Option Addr) (bn bc : Nat) :
    DuQ w (((w.alloc (.cells #[.slice so sn sc, .slice ao an ac] 26)).alloc (.cells #[.slice uo un uc, .slice bo bn bc] 26)).alloc (.cells #[.slice none 0 0, .slice none 0 0] 26)) so sn sc ao an ac uo un uc bo bn bc := by
  have k1 := box_below w (.cells #[.slice so sn sc, .slice ao an ac] 26)
  have b1 := allocNew w (.cells #[.slice so sn sc, .slice ao an ac] 26)
  have k2 := box_below (w.alloc (.cells #[.slice so sn sc, .slice ao an ac] 26)) (.cells #[.slice uo un uc, .slice bo bn bc] 26)
  have b2 := allocNew (w.alloc (.cells #[.slice so sn sc, .slice ao an ac] 26)) (.cells #[.slice uo un uc, .slice bo bn bc] 26)
  have k3 := box_below ((w.alloc (.cells #[.slice so sn sc, .slice ao an ac] 26)).alloc (.cells #[.slice uo un uc, .slice bo bn bc] 26)) (.cells #[.slice none 0 0, .slice none 0 0] 26)
  have b3 := allocNew ((w.alloc (.cells #[.slice so sn sc, .slice ao an ac] 26)).alloc (.cells #[.slice uo un uc, .slice bo bn bc] 26)) (.cells #[.slice none 0 0, .slice none 0 0] 26)
  simp only [World.size_alloc] at k2 b2 k3 b3
  exact ⟨(k3.block _ (by omega)).trans ((k2.block _ (by omega)).trans b1), (k3.block _ (by omega)).trans b2, b3, (k1.trans (k2.mono (by omega))).trans (k3.mono (by omega))⟩
/-- A result's box is written: what else there is, and the new rows. -/
theorem ft_setQ {e : TypeId} {V : World} {B b : Nat} {o : Option Addr} {n c : Nat} {zs : List Int} (h : Ft e V B o n c zs) (hb : b < B) (u v : Value) : Ft e ((V.setCell ⟨b, 0, none⟩ u).setCell ⟨b, 1, none⟩ v) B o n c zs := by
  have a := h.at
  exact h.keep1 (set2 V b 0 1 u v) (fun b' off e e' => by have := (a b' off e).1; injection e' with e'; omega)

theorem range_snoc (i : Nat) (g : Nat → Int) : (List.range i).map g ++ [g i] = (List.range (i + 1)).map g := by
  rw [List.range_succ, List.map_append]; rfl
theorem infoI3 : (Try.prog.info? 3).map (fun i => (i.zero, i.size, i.bytes)) = some (some (.int .i64 0), 1, 8) := by kernel_rfl
/-- What a call answers: an array and an error. -/
def AnsQ (w : World) (Φ : List Int → List Int → Prop) (E : Int) (e : Ending) (w' : World) : Prop := ∃ o1 n1 c1 o2 n2 c2 S A, e = .returned (.tuple #[.agg #[.slice o1 n1 c1, .slice o2 n2 c2], .int .i64 E]) ∧ Ft 3 w' w.heap.size o1 n1 c1 S ∧ Ft 2 w' w.heap.size o2 n2 c2 A ∧ Φ S A ∧ Below w.heap.size w w'
theorem AnsQ.imp {w w' : World} {Φ Ψ : List Int → List Int → Prop} {E : Int} {e : Ending} (h : AnsQ w Φ E e w') (hi : ∀ S A, Φ S A → Ψ S A) : AnsQ w Ψ E e w' := by
  obtain ⟨o1, n1, c1, o2, n2, c2, S, A, h1, h2, h3, h4, h5⟩ := h
  exact ⟨o1, n1, c1, o2, n2, c2, S, A, h1, h2, h3, hi _ _ h4, h5⟩

set_option maxRecDepth 20000 in
theorem nmPres (y : Int) (hy : Nm.inr y = true) (w : World) :
    Calls Try.prog 29 #[.int .i64 5, .int .i64 y] w fun e w' => e = .returned (.tuple #[.int .i64 (Nm.cut ((y.natAbs : Nat))), .int .i64 (Nm.ovr ((y.natAbs : Nat)))]) ∧ w' = w := by
  have hb := Nm.inr_iff.1 hy
  have hz : y.natAbs < 18446744073709551616 := by omega
  clear hb
  go_enter Try.func29, Try.ntmps29
  go_wp2_with (first | (go_at_call 47; refine (Nm.size_any _ (by assumption) _).mono ?_; rintro e w' ⟨rfl, rfl⟩) | (go_at_call 46; refine (Nm.unsigned_any _ (by assumption) _).mono ?_; rintro e w' ⟨rfl, rfl⟩))
  go_ret2
  exact ⟨rfl, rfl⟩
set_option maxRecDepth 20000 in
theorem ndDiv (x y : Int) (hx : Nm.inr x = true) (hy : Nm.inr y = true) (w : World) :
    Calls Try.prog 59 #[.int .i64 4, .int .i64 x, .int .i64 y] w fun e w' => e = .returned (.tuple #[.int .i64 (Nm.divN x y), .int .i64 (Nm.divE x y)]) ∧ w' = w := by
  go_enter Try.func59, Try.ntmps59
  go_wp2_with (first | (go_at_call 64; refine (Nm.quotient_any _ _ (by assumption) (by assumption) _).mono ?_; rintro e w' ⟨rfl, rfl⟩))
  go_ret2
  exact ⟨rfl, rfl⟩
set_option maxRecDepth 20000 in
theorem ndRes (x y : Int) (hx : Nm.inr x = true) (hy : Nm.inr y = true) (w : World) :
    Calls Try.prog 59 #[.int .i64 5, .int .i64 x, .int .i64 y] w fun e w' => e = .returned (.tuple #[.int .i64 (y.fmod x), .int .i64 (0)]) ∧ w' = w := by
  go_enter Try.func59, Try.ntmps59
  go_wp2_with (first | (go_at_call 65; refine (Nm.residue_any _ _ (by assumption) (by assumption) _).mono ?_; rintro e w' ⟨rfl, rfl⟩))
  go_ret2
  exact ⟨rfl, rfl⟩

/-- What dividing by a base tells. -/
def dvQ (n b : Int) : Int := if b = 0 then 0 else Nm.divN n b
def dvL (n b : Int) : Int := if b = 0 then n else n.fmod b
def dvE (n b : Int) : Int := if b = 0 then 0 else Nm.divE n b
theorem divided_any (n b : Int) (hn : Nm.inr n = true) (hb : Nm.inr b = true) (w : World) :
    Calls Try.prog 42 #[.int .i64 n, .int .i64 b] w fun e w' => e = .returned (.tuple #[.int .i64 (dvQ n b), .int .i64 (dvL n b), .int .i64 (dvE n b)]) ∧ w' = w := by
  unfold dvQ dvL dvE
  by_cases h0 : b = 0
  · have t : (b == 0) = true := by simpa using h0
    rw [if_pos h0, if_pos h0, if_pos h0]
    clear h0
    go_enter Try.func42, Try.ntmps42
    go_wp2
    go_returns
    exact ⟨rfl, rfl⟩
  · have t : (b == 0) = false := by simpa using h0
    rw [if_neg h0, if_neg h0, if_neg h0]
    clear h0
    go_enter Try.func42, Try.ntmps42
    go_wp2_with (first
      | (go_at_call 59; (with_reducible refine (ndDiv _ _ hn hb _).mono ?_); rintro e w1 ⟨rfl, hw⟩; rw [hw]; clear hw w1)
      | (go_at_call 59; (with_reducible refine (ndRes _ _ hb hn _).mono ?_); rintro e w1 ⟨rfl, hw⟩; rw [hw]; clear hw w1))
    go_returns
    exact ⟨rfl, rfl⟩
end Go.Proofs.Ytjnlkdeiccllgaa
