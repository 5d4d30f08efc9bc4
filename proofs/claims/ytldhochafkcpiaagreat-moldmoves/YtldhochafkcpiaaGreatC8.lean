
/- Contracts: two lists, one behind the other, by package slices. -/

import Derived.Test.YtldhochafkcpiaaGreatC4
import Derived.Test.YtldhochafkcpiaaGreatIndices
import Derived.Laws.AppendOwnNone



namespace Go.Proofs.YtldhochafkcpiaaGreat

open Go.RowKit

set_option linter.unusedVariables false

set_option maxHeartbeats 2000000 in
set_option maxRecDepth 20000 in
theorem grow_any (m : Nat) (w : World) (hm : m ≤ 10000) :
    Calls Tryz.prog 78 #[.slice none 0 0, .int .i64 (m : Nat)] w fun e w' => ∃ ao c, e = .returned (.slice ao 0 c) ∧ Ft 3 w' w.heap.size ao 0 c [] ∧ Below w.heap.size w w' := by
  by_cases h0 : m = 0
  · subst h0
    go_enter Tryz.func78, Tryz.ntmps78
    go_wp2
    go_ret
    exact ⟨_, _, rfl, Ft.nil _ _ _, Below.refl _ _⟩
  · obtain ⟨i0, hi, hz0, hz1, hz2⟩ := info_parts tyI.info
    have hr := Lib.run_append_nil_zeros (P := Tryz.prog) w 23 3 23 3 i0 (.int .i64 0) .i64 .i64 Tryz.underlying23 Tryz.underlying3 hi hz0 m (by omega) (by omega) (by omega) (by rw [hz2]; omega)
    have g1 := grownCap_ge w m 0 3
    have g2 := grownCap_le_maxLen w m 0 3 (by unfold maxLen; omega)
    generalize grownCap w m 0 3 = cap at *
    obtain ⟨cur, hcur⟩ := arr_list (Builtin.zeroCells (Value.int IntKind.i64 0).cells m ++ Builtin.zeroCells (Value.int IntKind.i64 0).cells (cap - m))
    have hl : (Builtin.zeroCells (Value.int IntKind.i64 0).cells m ++ Builtin.zeroCells (Value.int IntKind.i64 0).cells (cap - m)).size = cap := by
      simp [Builtin.zeroCells, Value.cells]
      omega
    have hn := allocNew w.drew (.cells (Builtin.zeroCells (Value.int IntKind.i64 0).cells m ++ Builtin.zeroCells (Value.int IntKind.i64 0).cells (cap - m)) 3)
    rw [hcur] at hr hn hl
    have HR : Hid ((Builtin.append_ #[23, 3] 23 #[.slice none 0 0, .int .i64 (m : Nat)]).run Tryz.prog w = .ok (.slice (some ⟨w.heap.size, 0, none⟩) m cap) (w.drew.alloc (.cells cur.toArray 3))) := hr
    have HN : Hid ((w.drew.alloc (.cells cur.toArray 3)).heap[w.heap.size]? = some (.cells cur.toArray 3 (0, 0))) := hn
    have HL : Hid (cur.length = cap) := by show _ = _; simpa using hl
    have t1 : decide ((m : Int) < 0) = false := by simp
    have t2 : decide ((0 : Int) < (m : Int)) = true := by simp; omega
    have w1 : IntKind.i64.wrap (m : Int) = (m : Int) := wrapIn _ (by omega)
    have c0 : ¬ cap = 0 := by omega
    have cm : cap ≤ 9223372036854775807 := by unfold maxLen at g2; omega
    clear hr hn hl hcur
    go_enter Tryz.func78, Tryz.ntmps78
    go_wp2_with (at_builtin; refine Lib.wpList_append_run _ rfl _ _ _ _ rfl _ _ rfl rfl _ _ HR.out ?_)
    go_ret
    exact ⟨_, _, rfl, Ft.row HN.out (Nat.le_refl _) rfl (by omega) (fun k hk => by omega) (Nat.zero_le _) g2 HL.out rfl, (Below.refl _ w).drew.alloc (by simp) _⟩

/-- Two lists, laid down as a list of lists. -/
theorem two_lists {w : World} {vb : Nat} {x y : Value} (h : w.heap[vb]? = some (.cells #[x, y] 23 (0, 0))) : w.cell? ⟨vb, 0, none⟩ = some x ∧ w.cell? ⟨vb, 1, none⟩ = some y :=
  ⟨(box2 h).1, (box2 h).2.1⟩

set_option maxHeartbeats 4000000 in
set_option maxRecDepth 20000 in
theorem concat_any (ao bo : Option Addr) (n ca m cb vb : Nat) (zs ys : List Int) (w : World) (hv : w.heap[vb]? = some (.cells #[.slice ao n ca, .slice bo m cb] 23 (0, 0))) (h : Rd w ao n zs) (hs : Sl ao n ca) (g : Rd w bo m ys) (gs : Sl bo m cb) (hn : n ≤ 5000) (hm : m ≤ 5000) :
    Calls Tryz.prog 47 #[.slice (some ⟨vb, 0, none⟩) 2 2] w fun e w' => ∃ co c, e = .returned (.slice co (n + m) c) ∧ Ft 3 w' w.heap.size co (n + m) c (zs ++ ys) ∧ Below w.heap.size w w' := by
  obtain ⟨x0, x1⟩ := two_lists hv
  have hvl := (Array.getElem?_eq_some_iff.1 hv).1
  have hg := grow_any (n + m) w (by omega)
  have hg' : Calls Tryz.prog 78 #[.slice none 0 0, .int .i64 ((n : Int) + (m : Int))] w fun e w' => ∃ ao c, e = .returned (.slice ao 0 c) ∧ Ft 3 w' w.heap.size ao 0 c [] ∧ Below w.heap.size w w' := by simpa using hg
  have w1 : IntKind.i64.wrap (n : Int) = (n : Int) := wrapIn _ (by omega)
  have w2 : IntKind.i64.wrap ((n : Int) + (m : Int)) = (n : Int) + (m : Int) := wrapIn _ (by omega)
  have t1 : decide ((n : Int) < 0) = false := by simp
  have t2 : decide ((n : Int) + (m : Int) < 0) = false := by simp; omega
  clear hg hv
  go_enter Tryz.func47, Tryz.ntmps47
  go_wp2
  refine wp_loop_rounds 3 ?_
  iterate 3 (rw [rounds_succ]; go_wp2_with (go_at_call 78; refine hg'.mono ?_; rintro e w1 ⟨o1, c1, rfl, f1, b1⟩; have y0 := (b1.cell (p := ⟨vb, 0, none⟩) hvl).trans x0; have y1 := (b1.cell (p := ⟨vb, 1, none⟩) hvl).trans x1))
  refine wp_loop_rounds 3 ?_
  iterate 3 (rw [rounds_succ]; go_wp2_with (first
    | (at_builtin; refine wpList_joinT tyI rfl _ _ rfl w.heap.size o1 ao 0 c1 n ca [] zs rfl rfl f1 (h.below b1 (Nat.le_refl _)) hs (by omega) b1.size ?_; intro co2 c2 w2 f2 b2; rw [Nat.zero_add, List.nil_append] at f2; have b12 := b1.trans b2; have u0 := (b12.cell (p := ⟨vb, 0, none⟩) hvl).trans x0; have u1 := (b12.cell (p := ⟨vb, 1, none⟩) hvl).trans x1)
    | (at_builtin; refine wpList_joinT tyI rfl _ _ rfl w.heap.size co2 bo n c2 m cb zs ys rfl rfl f2 (g.below b12 (Nat.le_refl _)) gs (by omega) b12.size ?_; intro co3 c3 w3 f3 b3; have b13 := b12.trans b3; have v0 := (b13.cell (p := ⟨vb, 0, none⟩) hvl).trans x0; have v1 := (b13.cell (p := ⟨vb, 1, none⟩) hvl).trans x1)))
  go_ret
  exact ⟨_, _, rfl, f3, b13⟩

/-- What Empty tells. -/
def empE (fs ls las : List Int) (told : Bool) : Int := if mayF fs ≠ 0 then mayF fs else if 0 < pr fs then 11 else if told then (if mayA ls las ≠ 0 then 1 else mayF (fs ++ ls)) else 0
def empS (fs ls las : List Int) (told : Bool) : List Int := if empE fs ls las told ≠ 0 then [] else if told then fs ++ ls else fs

theorem ft_set {w W : World} {e : TypeId} {B : Nat} {o : Option Addr} {n c : Nat} {zs : List Int} (h : Ft e W B o n c zs) {b : Nat} (hb : b < B) (u v : Value) : Ft e ((W.setCell ⟨b, 0, none⟩ u).setCell ⟨b, 1, none⟩ v) B o n c zs :=
  h.keep1 (set2 W b 0 1 u v) (fun b' off e' => by have := (h.at b' off e').1; intro e2; cases e2; omega)

end Go.Proofs.YtldhochafkcpiaaGreat
