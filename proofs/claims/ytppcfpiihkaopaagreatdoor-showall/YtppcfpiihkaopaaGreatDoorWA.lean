
/- Rows of bytes that grow; a row as a text. -/

import Derived.Test.YtppcfpiihkaopaaGreatDoorVR

import Derived.Lib.AppendStr

import Derived.Laws.BytesString

namespace Go.Proofs.YtppcfpiihkaopaaGreatDoor

open Go.RowKit Go.Lib

set_option linter.unusedVariables false

/-- A row of bytes of the call's own. -/
def Br (W : World) (B : Nat) (o : Option Addr) (n c : Nat) (l : List UInt8) : Prop := l.length = n ∧ W.ownsRow B 5 1 (.slice o n c) n (Lib.byteCells l)
theorem Br.nil (W : World) (B : Nat) : Br W B none 0 0 [] := ⟨rfl, W.ownsRow_nil B 5 1⟩
theorem infoU : (Tryz.prog.info? 5).map (fun i => (i.zero, i.size, i.bytes)) = some (some (.int .u8 0), 1, 1) := by kernel_rfl
theorem infoU' : ∃ i, Tryz.prog.info? 5 = some i ∧ i.zero = some (.int .u8 0) ∧ i.size = 1 ∧ i.bytes = 1 := by
  have h := infoU
  cases e : Tryz.prog.info? 5 with
  | none => rw [e] at h; cases h
  | some i =>
    rw [e] at h
    simp only [Option.map_some, Option.some.injEq, Prod.mk.injEq] at h
    exact ⟨i, rfl, h.1, h.2.1, h.2.2⟩
theorem Br.below {W V : World} {B C : Nat} {o : Option Addr} {n c : Nat} {l : List UInt8} (h : Br W B o n c l) (hb : Below C W V) (hC : W.heap.size ≤ C) : Br V B o n c l := by
  refine ⟨h.1, h.2.1, ?_⟩
  rcases h.2.2 with ⟨e, h0⟩ | ⟨g, cap, cur, e, hbg, hg, hnc, hcm, hcs, ht⟩
  · exact .inl ⟨e, h0⟩
  · exact .inr ⟨g, cap, cur, e, hbg, (hb.block g (Nat.lt_of_lt_of_le (Array.getElem?_eq_some_iff.1 hg).1 hC)).trans hg, hnc, hcm, hcs, ht⟩
theorem cells_app (a b : List UInt8) : Lib.byteCells (a ++ b) = Lib.byteCells a ++ Lib.byteCells b := by unfold Lib.byteCells; rw [List.map_append]
theorem strc (s : List UInt8) : strCells ⟨s.toArray⟩ = Lib.byteCells s := by unfold strCells Lib.byteCells; simp
/-- A text more behind a row of bytes. -/
theorem run_appS {w : World} (tt : TypeId) (B : Nat) (o : Option Addr) (n c : Nat) (l s : List UInt8) (h : Br w B o n c l) (hr : n + s.length ≤ 140737488355328) (hB : B ≤ w.heap.size) :
    ∃ co cc w', (Builtin.append_ #[65, 9] tt #[.slice o n c, .string ⟨s.toArray⟩]).run Tryz.prog w = .ok (.slice co (n + s.length) cc) w' ∧ Br w' B co (n + s.length) cc (l ++ s) ∧ w.grownBy w' (Value.slice o n c).ownBlock := by
  obtain ⟨i, hi, hz, hs, hb⟩ := infoU'
  have es : (⟨s.toArray⟩ : ByteArray).size = s.length := by simp [ByteArray.size]
  obtain ⟨v', w', hrun, hown, hgrow, _⟩ := run_append_own_string (P := Tryz.prog) w B 65 9 tt 5 i Tryz.underlying65 Tryz.underlying9 hi hz hs hb _ n _ h.2 ⟨s.toArray⟩ (by rw [es]; unfold maxLen; omega) (by rw [es]; exact hr) hB
  rw [es, strc, ← cells_app] at hown
  have hl : (l ++ s).length = n + s.length := by rw [List.length_append, h.1]
  have hown' := hown
  rcases hown.2 with ⟨e, h0⟩ | ⟨g, cap, cur, e, _⟩
  · subst e
    exact ⟨none, 0, w', hrun.trans (by rw [h0]), ⟨hl, by rw [h0]; rw [h0] at hown'; exact hown'⟩, hgrow⟩
  · subst e
    exact ⟨_, cap, w', hrun, ⟨hl, hown'⟩, hgrow⟩
/-- A byte more. -/
theorem run_appB {w : World} (tt : TypeId) (B : Nat) (o : Option Addr) (n c vb : Nat) (l : List UInt8) (b : UInt8) (h : Br w B o n c l) (hv : w.cell? ⟨vb, 0, none⟩ = some (.int .u8 b.toNat)) (hr : n + 1 ≤ 140737488355328) (hB : B ≤ w.heap.size) :
    ∃ co cc w', (Builtin.append_ #[65, 65] tt #[.slice o n c, .slice (some ⟨vb, 0, none⟩) 1 1]).run Tryz.prog w = .ok (.slice co (n + 1) cc) w' ∧ Br w' B co (n + 1) cc (l ++ [b]) ∧ w.grownBy w' (Value.slice o n c).ownBlock := by
  obtain ⟨i, hi, hz, hs, hb⟩ := infoU'
  obtain ⟨v', w', hrun, hown, hgrow, _⟩ := run_append_own (P := Tryz.prog) w B 65 tt 5 i (.int .u8 0) 1 1 Tryz.underlying65 hi hz hs hb rfl (by decide) _ n _ h.2 ⟨vb, 0, none⟩ 1 1 [.int .u8 b.toNat] rfl
    (fun j u hu => by
      match j, hu with
      | 0, hu => cases hu; exact hv
      | j + 1, hu => simp at hu) (fun u hu => by simp at hu; subst hu; rfl) (by unfold maxLen; omega) (by omega) hB
  have hl : (l ++ [b]).length = n + 1 := by rw [List.length_append, h.1]; rfl
  have hc : Lib.byteCells l ++ [.int .u8 b.toNat] = Lib.byteCells (l ++ [b]) := by rw [cells_app]; rfl
  rw [hc] at hown
  rcases hown.2 with ⟨e, h0⟩ | ⟨g, cap, cur, e, _⟩
  · omega
  · subst e
    exact ⟨_, cap, w', hrun, ⟨hl, hown⟩, hgrow⟩
theorem push_all : ∀ (l : List UInt8) (s : ByteArray), (l.map fun b => (b.toNat : Int)).foldl (fun r n => r.push (UInt8.ofNat n.toNat)) s = ⟨s.data ++ l.toArray⟩
  | [], s => by simp
  | b :: l, s => by
    rw [List.map_cons, List.foldl_cons, push_all l]
    apply ByteArray.ext
    simp [ByteArray.push]
/-- A row of bytes as a text. -/
theorem conv_row {W : World} {B : Nat} {o : Option Addr} {n c : Nat} {l : List UInt8} (h : Br W B o n c l) : (convert 65 9 (.slice o n c)).run Tryz.prog W = .ok (.string ⟨l.toArray⟩) W := by
  rw [run_convert_bytes_string W 65 9 5 o n c Tryz.underlying65 Tryz.underlying5 Tryz.underlying9]
  obtain ⟨hl, ho⟩ := h
  rcases ho.2 with ⟨e, h0⟩ | ⟨g, cap, cur, e, hbg, hg, hnc, hcm, hcs, ht⟩
  · injection e with e1 e2 e3
    subst e1 e2 e3
    have : l = [] := List.eq_nil_of_length_eq_zero hl
    subst this
    rfl
  · injection e with e1 e2 e3
    subst e1 e3
    have hx : (loadCells ⟨g, 0, none⟩ n).run Tryz.prog W = .ok ((l.map fun b => (b.toNat : Int)).map (Value.int .u8)).toArray W := by
      have hk := run_loadCells_list (P := Tryz.prog) (w := W) ⟨g, 0, none⟩ (Lib.byteCells l) (fun j v hj => by
        have hjl : j < n * 1 := by
          have := (List.getElem?_eq_some_iff.1 hj).1
          unfold Lib.byteCells at this
          rw [List.length_map, hl] at this
          omega
        have := ho.cellAt j hjl
        rw [show (⟨g, 0, none⟩ : Addr).add j = ⟨g, j, none⟩ from by unfold Addr.add; split <;> simp_all]
        rw [this]; exact hj)
      have hln : (Lib.byteCells l).length = n := by unfold Lib.byteCells; rw [List.length_map, hl]
      rw [hln] at hk
      rw [hk]
      unfold Lib.byteCells
      rw [List.map_map]
      rfl
    rw [run_bytesToString W _ n c _ hx, push_all]
    simp
theorem Br.lt {W : World} {B : Nat} {o : Option Addr} {n c : Nat} {l : List UInt8} (h : Br W B o n c l) (k : Nat) (e : (Value.slice o n c).ownBlock = some k) : B ≤ k := (h.2.lt k e).1
theorem wpList_appS {w : World} {ops : Array Oper} {rest : List Oper} {o : Oper} {a : Act} {Q : Exit → Act → World → Prop} (hgd : o.guard = none) (p x : Operand)
    (ho : o.op = .call { callee := .builtin .append, args := #[p, x], argTypes := #[65, 9] }) (B N : Nat) (bo : Option Addr) (n c : Nat) (l s : List UInt8)
    (hs : a.eval p = .slice bo n c) (hx : a.eval x = .string ⟨s.toArray⟩) (hN : n + s.length = N) (h : Br w B bo n c l) (hr : n + s.length ≤ 140737488355328) (hB : B ≤ w.heap.size)
    (hK : ∀ co cc w', Br w' B co N cc (l ++ s) → Below B w w' → wpList Tryz.prog ops Q rest (a.put o.dst (.slice co N cc)) w') : wpList Tryz.prog ops Q (o :: rest) a w := by
  subst hN
  refine wpList_plain hgd fun K hK2 => ?_
  obtain ⟨co, cc, w', hrun, hf, h2⟩ := run_appS o.type B bo n c l s h hr hB
  unfold Oper.wp execOp
  simp only [ho, resolve, invoke, builtin, Sem.run_bind, Sem.run_pure, Result.andThen_ok, List.map_toArray, List.map_cons, List.map_nil, hs, hx, hrun]
  exact hK2 _ _ (hK _ _ _ hf ((Below.refl _ _).grown h2 hB fun k e => h.lt k e))
theorem wpList_appB {w : World} {ops : Array Oper} {rest : List Oper} {o : Oper} {a : Act} {Q : Exit → Act → World → Prop} (hgd : o.guard = none) (p x : Operand)
    (ho : o.op = .call { callee := .builtin .append, args := #[p, x], argTypes := #[65, 65] }) (B N : Nat) (bo : Option Addr) (n c vb : Nat) (l : List UInt8) (b : UInt8)
    (hs : a.eval p = .slice bo n c) (hx : a.eval x = .slice (some ⟨vb, 0, none⟩) 1 1) (hN : n + 1 = N) (h : Br w B bo n c l) (hv : w.cell? ⟨vb, 0, none⟩ = some (.int .u8 b.toNat)) (hr : n + 1 ≤ 140737488355328) (hB : B ≤ w.heap.size)
    (hK : ∀ co cc w', Br w' B co N cc (l ++ [b]) → Below B w w' → wpList Tryz.prog ops Q rest (a.put o.dst (.slice co N cc)) w') : wpList Tryz.prog ops Q (o :: rest) a w := by
  subst hN
  refine wpList_plain hgd fun K hK2 => ?_
  obtain ⟨co, cc, w', hrun, hf, h2⟩ := run_appB o.type B bo n c vb l b h hv hr hB
  unfold Oper.wp execOp
  simp only [ho, resolve, invoke, builtin, Sem.run_bind, Sem.run_pure, Result.andThen_ok, List.map_toArray, List.map_cons, List.map_nil, hs, hx, hrun]
  exact hK2 _ _ (hK _ _ _ hf ((Below.refl _ _).grown h2 hB fun k e => h.lt k e))
end Go.Proofs.YtppcfpiihkaopaaGreatDoor
