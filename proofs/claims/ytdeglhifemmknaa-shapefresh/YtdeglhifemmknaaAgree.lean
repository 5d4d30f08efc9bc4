
/- Contracts of package shape's Agree, and of the document's own Agree and Split. -/

import Derived.Test.YtdeglhifemmknaaSplit2

import Derived.Test.YtdeglhifemmknaaRefs

import Derived.Deep.RegionLaw

namespace Go.Proofs.Ytdeglhifemmknaa

open Go.RowKit

set_option linter.unusedVariables false

theorem below_drewN {B : Nat} {a w : World} (h : Below B a w) : ∀ n, Below B a (w.drewN n)
  | 0 => h
  | n + 1 => ⟨(below_drewN h n).os, (below_drewN h n).tape, (below_drewN h n).output, (below_drewN h n).size, (below_drewN h n).block⟩

/-- A copy made by an append to nil, when it is run. -/
theorem run_copy {w : World} (ty : TypeId) (ao : Option Addr) (n cap : Nat) (zs : List Int) (h : Rd w ao n zs) :
    ∃ ao' cap' w', (Builtin.append_ #[28, 28] ty #[.slice none 0 0, .slice ao n cap]).run Try.prog w = .ok (.slice ao' n cap') w' ∧ Fr w' w.heap.size ao' n cap' zs ∧ Below w.heap.size w w' := by
  have hroom := h.room
  have hlen := h.len
  by_cases h0 : n = 0
  · subst h0
    have hz : zs = [] := List.eq_nil_of_length_eq_zero hlen
    subst hz
    exact ⟨none, 0, w, append_nothing _ _ _ _, Fr.nil _ _, Below.refl _ _⟩
  · obtain ⟨b, off, rfl, hb, hc⟩ := h.cells (by omega)
    obtain ⟨i0, hi, hz0, hz1, hz2⟩ := info_parts info3
    obtain ⟨v', w', hrun, hown, hgrow, _⟩ := run_append_own (P := Try.prog) w w.heap.size 28 ty 3 i0 (.int .i64 0) 1 8 Try.underlying28 hi hz0 hz1 hz2 rfl (by decide) (.slice none 0 0) 0 [] (World.ownsRow_nil _ _ _ _) ⟨b, off, none⟩ n cap (zs.map (Value.int .i64)) (by rw [List.length_map, hlen, Nat.mul_one]) (Rd.news hlen hc) (ints_one zs) (by unfold maxLen; omega) (by omega) (Nat.le_refl _)
    rw [Nat.zero_add, List.nil_append] at hown
    obtain ⟨ao', cap', rfl, hfr⟩ := Fr.mk' hlen hroom h.num hown
    exact ⟨ao', cap', w', hrun, hfr, (Below.refl _ _).grown hgrow (Nat.le_refl _) (fun k e => by simp [Value.ownBlock] at e)⟩

theorem wpList_copy {w : World} {ops : Array Oper} {rest : List Oper} {o : Oper} {a : Act} {Q : Exit → Act → World → Prop} (hgd : o.guard = none) (s x : Operand)
    (ho : o.op = .call { callee := .builtin .append, args := #[s, x], argTypes := #[28, 28] }) (ao : Option Addr) (n cap : Nat) (zs : List Int)
    (hs : a.eval s = .slice none 0 0) (hx : a.eval x = .slice ao n cap) (h : Rd w ao n zs)
    (hK : ∀ ao' cap' w', Fr w' w.heap.size ao' n cap' zs → Below w.heap.size w w' → wpList Try.prog ops Q rest (a.put o.dst (.slice ao' n cap')) w') : wpList Try.prog ops Q (o :: rest) a w := by
  obtain ⟨ao', cap', w', hrun, hf, hb⟩ := run_copy o.type ao n cap zs h
  exact wpList_append_run hgd s x 28 ho _ (by rw [hs, hx]; exact hrun) (hK _ _ _ hf hb)

theorem step_copy {ops : Array Oper} {o : Oper} {a : Act} {w : World} {K : Act → World → Prop} {Q : Exit → Act → World → Prop} {E : Prop}
    (hg : o.guard = none) (s x : Operand) (ho : o.op = .call { callee := .builtin .append, args := #[s, x], argTypes := #[28, 28] }) (ao : Option Addr) (n cap : Nat) (zs : List Int)
    (hs : a.eval s = .slice none 0 0) (hx : a.eval x = .slice ao n cap) (h : Rd w ao n zs)
    (hK : ∀ ao' cap' w', Fr w' w.heap.size ao' n cap' zs → Below w.heap.size w w' → K (a.put o.dst (.slice ao' n cap')) w') :
    if Region.wanted o (yielded ops a.tmps) = true then Oper.wp Try.prog o a w K Q else E := by
  have hw : Region.wanted o (yielded ops a.tmps) = true := by simp [Region.wanted, hg]
  rw [if_pos hw]
  obtain ⟨ao', cap', w', hrun, hf, hb⟩ := run_copy o.type ao n cap zs h
  unfold Oper.wp
  simp [execOp, ho, resolve, invoke, builtin, hs, hx, hrun, Result.andThen]
  exact hK _ _ _ hf hb

/-- Do two agree: is the shorter one the beginning of the longer one? -/
def agrB (a b : List Int) : Bool := if b.length < a.length then eqB b (a.take b.length) else eqB a (b.take a.length)
def agrL (a b : List Int) : List Int := if agrB a b = true then (if b.length < a.length then a else b) else []
def agrE (a b : List Int) : Int := if agrB a b = true then 0 else 11

theorem ret_lone {ao bo : Option Addr} {n m c d : Nat} {x y : Int} (h1 : ao = bo) (h2 : n = m) (h3 : c = d) (h : x = y) : Ending.returned (.tuple #[.slice ao n c, .int .i64 x]) = .returned (.tuple #[.slice bo m d, .int .i64 y]) := by rw [h1, h2, h3, h]

set_option maxHeartbeats 2000000 in
theorem agree_any (ao bo : Option Addr) (n m cap cap' : Nat) (zs ys : List Int) (w : World) (h : Rd w ao n zs) (g : Rd w bo m ys) (hs : Sl ao n cap) (gs : Sl bo m cap') :
    Calls Try.prog 16 #[.slice ao n cap, .slice bo m cap'] w fun e w' => ∃ co k c, e = .returned (.tuple #[.slice co k c, .int .i64 (agrE zs ys)]) ∧ Fr w' w.heap.size co k c (agrL zs ys) ∧ Below w.heap.size w w' := by
  have hroom := h.room
  have groom := g.room
  have hle := hs.le
  have gle := gs.le
  have hmx := hs.max
  have gmx := gs.max
  have HL : Hid (zs.length = n) := h.len
  have GL : Hid (ys.length = m) := g.len
  by_cases hnm : m < n
  · obtain ⟨a, rfl⟩ : ∃ a, ao = some a := by
      obtain ⟨b, off, e, _⟩ := h.cells (by omega)
      exact ⟨_, e⟩
    have he := slicesEqual_any bo (some a) m m cap' cap ys (zs.take m) w g (h.take m (by omega))
    have hB : agrB zs ys = eqB ys (zs.take m) := by
      unfold agrB; rw [HL.out, GL.out, if_pos hnm]
    rw [← hB] at he
    have hc : ∀ W, Rd W (some a) n zs → _ := fun W hW => copied_any (some a) n cap zs W hW
    have HLo : Hid (agrB zs ys = true → agrL zs ys = zs) := fun hb => by unfold agrL; rw [if_pos hb, HL.out, GL.out, if_pos hnm]
    clear hB
    by_cases hb : agrB zs ys = true
    · rw [hb] at he
      have HB : Hid (agrB zs ys = true) := hb
      clear hb
      go_enter Try.func16, Try.ntmps16
      go_wp2_with (first | (go_at_call 29; refine he.mono ?_; rintro e w1 ⟨rfl, q, hw⟩; have hrd : Rd w1 (some a) n zs := (by rw [hw]; exact h.drewN q); have hbw : Below w.heap.size w w1 := (by rw [hw]; exact below_drewN (Below.refl _ _) q); clear hw) | (go_at_call 28; refine (hc _ (by assumption)).mono ?_; rintro e w2 ⟨ao', c', rfl, hf, hb2⟩))
      go_ret2
      refine ⟨_, _, _, ret_lone rfl rfl rfl ?_, ?_, hbw.trans (hb2.mono hbw.size)⟩
      · unfold agrE; rw [if_pos HB.out]
      · rw [HLo.out HB.out]; exact hf.mono hbw.size
    · have hb' : agrB zs ys = false := by simpa using hb
      rw [hb'] at he
      have HB : Hid (agrB zs ys = false) := hb'
      clear hb' hb
      go_enter Try.func16, Try.ntmps16
      go_wp2_with (go_at_call 29; refine he.mono ?_; rintro e w1 ⟨rfl, q, hw⟩; have hbw : Below w.heap.size w w1 := (by rw [hw]; exact below_drewN (Below.refl _ _) q); clear hw)
      go_ret2
      refine ⟨_, _, _, ret_lone rfl rfl rfl ?_, ?_, hbw⟩
      · unfold agrE; rw [if_neg (by rw [HB.out]; simp)]
      · have : agrL zs ys = [] := by unfold agrL; rw [if_neg (by rw [HB.out]; simp)]
        rw [this]; exact Fr.nil _ _
  · have he := slicesEqual_any ao bo n n cap cap' zs (ys.take n) w h (g.take n (by omega))
    have hB : agrB zs ys = eqB zs (ys.take n) := by
      unfold agrB; rw [HL.out, GL.out, if_neg hnm]
    rw [← hB] at he
    have hc : ∀ W, Rd W bo m ys → _ := fun W hW => copied_any bo m cap' ys W hW
    have HLo : Hid (agrB zs ys = true → agrL zs ys = ys) := fun hb => by unfold agrL; rw [if_pos hb, HL.out, GL.out, if_neg hnm]
    clear hB
    have hbo : (bo = none ∧ m = 0 ∧ cap' = 0) ∨ ∃ b, bo = some b := by
      cases bo with
      | none => exact .inl ⟨rfl, gs.nil rfl⟩
      | some b => exact .inr ⟨b, rfl⟩
    rcases hbo with ⟨rfl, rfl, rfl⟩ | ⟨a, rfl⟩
    all_goals
      by_cases hb : agrB zs ys = true
      · rw [hb] at he
        have HB : Hid (agrB zs ys = true) := hb
        clear hb
        first | (have hn0 : n = 0 := (by omega); subst hn0) | skip
        go_enter Try.func16, Try.ntmps16
        go_wp2_with (first | (go_at_call 29; refine he.mono ?_; rintro e w1 ⟨rfl, q, hw⟩; have hrd : Rd w1 _ _ ys := (by rw [hw]; exact g.drewN q); have hbw : Below w.heap.size w w1 := (by rw [hw]; exact below_drewN (Below.refl _ _) q); clear hw) | (go_at_call 28; refine (hc _ (by assumption)).mono ?_; rintro e w2 ⟨ao', c', rfl, hf, hb2⟩))
        go_ret2
        refine ⟨_, _, _, ret_lone rfl rfl rfl ?_, ?_, hbw.trans (hb2.mono hbw.size)⟩
        · unfold agrE; rw [if_pos HB.out]
        · rw [HLo.out HB.out]; exact hf.mono hbw.size
      · have hb' : agrB zs ys = false := by simpa using hb
        rw [hb'] at he
        have HB : Hid (agrB zs ys = false) := hb'
        clear hb' hb
        first | (have hn0 : n = 0 := (by omega); subst hn0) | skip
        go_enter Try.func16, Try.ntmps16
        go_wp2_with (go_at_call 29; refine he.mono ?_; rintro e w1 ⟨rfl, q, hw⟩; have hbw : Below w.heap.size w w1 := (by rw [hw]; exact below_drewN (Below.refl _ _) q); clear hw)
        go_ret2
        refine ⟨_, _, _, ret_lone rfl rfl rfl ?_, ?_, hbw⟩
        · unfold agrE; rw [if_neg (by rw [HB.out]; simp)]
        · have : agrL zs ys = [] := by unfold agrL; rw [if_neg (by rw [HB.out]; simp)]
          rw [this]; exact Fr.nil _ _
end Go.Proofs.Ytdeglhifemmknaa
