
/- A step more: the walk. -/

import Derived.Test.YtfbnnofmplakjaaDoorFM

namespace Go.Proofs.YtfbnnofmplakjaaDoor

open Go.RowKit Go.Extern.Stop Go.Stop Go.Extern

set_option linter.unusedVariables false

theorem own_cell {w : World} {g : Nat} {cs : Array Value} {t : TypeId} (h : w.heap[g]? = some (.cells cs t (0, 0))) (k : Nat) : w.frozen? ⟨g, k, none⟩ = false := by simp [World.frozen?, h]

theorem Bx.c {W : World} {s : Nat} {th : Bool} {c p : Int} {nv : Value} {t : List UInt8} {k : Int} {nm : List UInt8} (h : Bx W s th c p nv t k nm) :
    W.cell? ⟨s, 0, none⟩ = some (.bool th) ∧ W.cell? ⟨s, 3, none⟩ = some nv ∧ W.cell? ⟨s, 4, none⟩ = some (.string ⟨t.toArray⟩) ∧ W.cell? ⟨s + 1, 0, none⟩ = some (.int .i64 k) ∧ W.cell? ⟨s + 1, 1, none⟩ = some (.string ⟨nm.toArray⟩) :=
  ⟨cell_of h.b0 rfl, cell_of h.b0 rfl, cell_of h.b0 rfl, cell_of h.b1 rfl, cell_of h.b1 rfl⟩
theorem Bx.set3 {W : World} {s : Nat} {th : Bool} {c p : Int} {nv : Value} {t : List UInt8} {k : Int} {nm : List UInt8} (h : Bx W s th c p nv t k nm) (v : Value) : Bx (W.setCell ⟨s, 3, none⟩ v) s th c p v t k nm :=
  ⟨by rw [heap_setCell_same W s 3 _ _ _ h.b0]; rfl, by rw [Below.heap_setCell _ _ _ _ (by simp)]; exact h.b1, by rw [Below.heap_setCell _ _ _ _ (by dsimp only; omega)]; exact h.b2⟩
theorem Bx.set4 {W : World} {s : Nat} {th : Bool} {c p : Int} {nv : Value} {t : List UInt8} {k : Int} {nm : List UInt8} (h : Bx W s th c p nv t k nm) (t' : List UInt8) : Bx (W.setCell ⟨s, 4, none⟩ (.string ⟨t'.toArray⟩)) s th c p nv t' k nm :=
  ⟨by rw [heap_setCell_same W s 4 _ _ _ h.b0]; rfl, by rw [Below.heap_setCell _ _ _ _ (by simp)]; exact h.b1, by rw [Below.heap_setCell _ _ _ _ (by dsimp only; omega)]; exact h.b2⟩
theorem Bx.f {W : World} {s : Nat} {th : Bool} {c p : Int} {nv : Value} {t : List UInt8} {k : Int} {nm : List UInt8} (h : Bx W s th c p nv t k nm) : ∀ j, W.frozen? ⟨s, j, none⟩ = false := fun j => own_cell h.b0 j
/-- The book is handed out. -/
theorem Bx.out {W : World} {s : Nat} {th : Bool} {c p : Int} {nv : Value} {t : List UInt8} {k : Int} {nm : List UInt8} (h : Bx W s th c p nv t k nm) :
    (W.cell? ⟨s, 0, none⟩ = some (.bool th) ∧ W.cell? ⟨s, 1, none⟩ = some (.int .i64 c) ∧ W.cell? ⟨s, 2, none⟩ = some (.int .i64 p) ∧ W.cell? ⟨s, 3, none⟩ = some nv ∧ W.cell? ⟨s, 4, none⟩ = some (.string ⟨t.toArray⟩)) ∧
    (W.cell? ⟨s + 1 + 1, 0, none⟩ = some (.bool false) ∧ W.cell? ⟨s + 1 + 1, 1, none⟩ = some (.int .i64 0) ∧ W.cell? ⟨s + 1 + 1, 2, none⟩ = some (.int .i64 0) ∧ W.cell? ⟨s + 1 + 1, 3, none⟩ = some (.slice none 0 0) ∧ W.cell? ⟨s + 1 + 1, 4, none⟩ = some (.string ⟨#[]⟩)) ∧
    (∀ j, W.frozen? ⟨s + 1 + 1, j, none⟩ = false) :=
  ⟨⟨cell_of h.b0 rfl, cell_of h.b0 rfl, cell_of h.b0 rfl, cell_of h.b0 rfl, cell_of h.b0 rfl⟩, ⟨cell_of h.b2 rfl, cell_of h.b2 rfl, cell_of h.b2 rfl, cell_of h.b2 rfl, cell_of h.b2 rfl⟩, fun j => own_cell h.b2 j⟩

theorem Only.grown {w W W' : World} {row : Option Nat} (h : Only w.heap.size (w.heap.size + 1 + 1) W W') (g : w.grownBy W row) : w.grownBy W' row :=
  ⟨h.os.trans g.os, h.tape.trans g.tape, h.output.trans g.output, by rw [h.size]; exact g.size, fun k hk hne => (h.block k (by omega) (by omega)).trans (g.block k hk hne)⟩
theorem wpList_app1 {ops : Array Oper} {rest : List Oper} {o : Oper} {a : Act} {Q : Exit → Act → World → Prop} {w : World} (hgd : o.guard = none) (s x : Operand)
    (ho : o.op = .call { callee := .builtin .append, args := #[s, x], argTypes := #[27, 27] }) (B : Nat) (v : Value) (l : List (List UInt8)) (nm : List UInt8) (g : Nat) (hs : a.eval s = v) (hown : St w B v l)
    (hx : a.eval x = .slice (some ⟨g, 0, none⟩) 1 1) (hc : w.cell? ⟨g, 0, none⟩ = some (.string ⟨nm.toArray⟩)) (hl : l.length ≤ 8796093022000) (hB : B ≤ w.heap.size)
    (h : ∀ v' w', St w' B v' (l ++ [nm]) → w.grownBy w' v.ownBlock → (∃ a' n' c', v' = .slice a' n' c') → wpList Tryd.prog ops Q rest (a.put o.dst v') w') : wpList Tryd.prog ops Q (o :: rest) a w := by
  obtain ⟨i9, hi9, hz9, hs9, hb9⟩ := info9
  refine wpList_append_own _ hgd s x 27 ho B 9 i9 (.string ⟨#[]⟩) 1 16 Tryd.underlying27 hi9 hz9 hs9 hb9 rfl (by decide) v l.length _ hs hown ⟨g, 0, none⟩ 1 1 [.string ⟨nm.toArray⟩] hx rfl ?_ ?_ ?_ ?_ hB ?_
  · intro j u hj
    match j, hj with
    | 0, hj => simp at hj; subst hj; simpa [Addr.add] using hc
  · intro u hu; simp at hu; subst hu; rfl
  · unfold maxLen; omega
  · omega
  · intro v' w' h1 h2 _
    refine h v' w' ?_ h2 ?_
    · have : (l ++ [nm]).length = l.length + 1 := by simp
      unfold St
      rw [this, List.map_append]
      exact h1
    · rcases h1.2 with ⟨rfl, _⟩ | ⟨g, cap, cur, rfl, _⟩ <;> exact ⟨_, _, _, rfl⟩

set_option maxHeartbeats 2000000 in
theorem more_in (w : World) (B : Nat) (e nv : Value) (ls : List Lk) (b : Bs) (c p : Int) (t nm : List UInt8) (l : List (List UInt8)) (h : Ch w e ls b) (hr : St w B nv l) (hB : B ≤ w.heap.size) (hl : l.length ≤ 8796093022000) (ht : t.length ≤ 1152921504606846976) (hn : nm.length ≤ 1152921504606846976) :
    Calls Tryd.prog 11 #[e, .agg #[.bool true, .int .i64 c, .int .i64 p, nv, .string ⟨t.toArray⟩], .agg #[.int .i64 1, .string ⟨nm.toArray⟩]] w fun r w' => ∃ e' nv', r = .returned (.tuple #[e', .agg #[.bool true, .int .i64 c, .int .i64 p, nv', .string ⟨(nm ++ (wCol ++ t)).toArray⟩]]) ∧ Ch w' e' (some nm :: ls) b ∧ St w' B nv' (l ++ [nm]) ∧ w.grownBy w' nv.ownBlock := by
  have X0 := bx_new w true c p nv t 1 nm
  have k0 : Below w.heap.size w _ := ((box_below w (.cells #[.bool true, .int .i64 c, .int .i64 p, nv, .string ⟨t.toArray⟩] 29)).alloc (by simp) (.cells #[.int .i64 1, .string ⟨nm.toArray⟩] 35)).alloc (by simp; omega) (.cells #[.bool false, .int .i64 0, .int .i64 0, .slice none 0 0, .string ⟨#[]⟩] 29)
  have cI := in_any nm _ e ls b (Ch.below k0 (Nat.le_refl _) h)
  have hnv : ∃ a n cc, nv = .slice a n cc := by
    rcases hr.2 with ⟨rfl, _⟩ | ⟨g, cap, cur, rfl, _⟩ <;> exact ⟨_, _, _, rfl⟩
  have hrow : ∀ g, nv.ownBlock = some g → g < w.heap.size := fun g hg => (hr.lt g hg).2
  obtain ⟨te, ve, rfl⟩ := h.iface
  have q1 : ¬ 9223372036854775807 < nm.length + 2 := by omega
  have q2 : ¬ 9223372036854775807 < nm.length + 2 + t.length := by omega
  obtain ⟨na, nn, nc, rfl⟩ := hnv
  go_enter Tryd.func11, Tryd.ntmps11
  go_upto_region 4 with (go_at_call 13; (with_reducible refine cI.mono ?_); rintro e w1 ⟨v1, rfl, hc1, b1⟩; have X1 := X0.below b1; have K1 := k0.trans (b1.mono k0.size); have hr1 := own_below (own_below (own_below hr k0) b1) (box_below w1 (.cells #[.string ⟨nm.toArray⟩] 9)); obtain ⟨z0, z3, z4, y0, y1⟩ := X1.c)
  have X1a := X1.below (box_below w1 (.cells #[.string ⟨nm.toArray⟩] 9))
  have hc1a := Ch.below (box_below w1 (.cells #[.string ⟨nm.toArray⟩] 9)) (Nat.le_refl _) hc1
  have K1a := K1.alloc K1.size (.cells #[.string ⟨nm.toArray⟩] 9)
  have hBa : B ≤ (w1.alloc (.cells #[.string ⟨nm.toArray⟩] 9)).heap.size := Nat.le_trans hB K1a.size
  go_upto_region 5 with (at_builtin; refine wpList_app1 rfl _ _ rfl B _ l nm w1.heap.size rfl hr1 rfl (by simp) hl hBa ?_; intro v2 w2 S2 G2 hv2; obtain ⟨xa, xn, xc, rfl⟩ := hv2; have X2 := X1a.grown G2 hrow; have f2 := X2.f 3; obtain ⟨-, x3, -, -, -⟩ := X2.c)
  have hc2 := hc1a.grown G2 hr1
  have X3 := X2.set3 (.slice xa xn xc)
  have O3 := (Only.refl w.heap.size (w.heap.size + 1 + 1) w2).set ⟨w.heap.size, 3, none⟩ (.slice xa xn xc) (.inl rfl)
  have GG : Hid (w.grownBy w2 (Value.slice na nn nc).ownBlock) := ⟨G2.os.trans K1a.os, G2.tape.trans K1a.tape, G2.output.trans K1a.output, Nat.le_trans K1a.size G2.size, fun k hk hne => (G2.block k (Nat.lt_of_lt_of_le hk K1a.size) hne).trans (K1a.block k hk)⟩
  have HC : Hid (Ch w2 v1 (some nm :: ls) b) := hc2
  have HS : Hid (St w2 B (.slice xa xn xc) (l ++ [nm])) := S2
  have B0 := X2.b0
  have B2 := X2.b2
  generalize w2.setCell ⟨w.heap.size, 3, none⟩ (.slice xa xn xc) = W3 at *
  obtain ⟨z0', z3', z4', y0', y1'⟩ := X3.c
  have f3 := X3.f 4
  clear X0 k0 cI hrow hc1 b1 X1 K1 hr1 z0 z3 z4 y0 y1 X1a hc1a K1a hBa hc2 X2 G2 S2 h hr f2 x3
  go_upto_region 9 with fail
  rw [show (⟨nm.toArray⟩ : ByteArray) ++ ⟨#[58, 32]⟩ ++ ⟨t.toArray⟩ = ⟨(nm ++ (wCol ++ t)).toArray⟩ from by rw [show (⟨#[58, 32]⟩ : ByteArray) = ⟨wCol.toArray⟩ from rfl, bs_app, bs_app, List.append_assoc]]
  have X4 := X3.set4 (nm ++ (wCol ++ t))
  have O4 := O3.set ⟨w.heap.size, 4, none⟩ (.string ⟨(nm ++ (wCol ++ t)).toArray⟩) (.inl rfl)
  generalize W3.setCell ⟨w.heap.size, 4, none⟩ (.string ⟨(nm ++ (wCol ++ t)).toArray⟩) = W4 at *
  clear z0' z3' z4' y0' y1' f3 X3
  obtain ⟨⟨a0, a1, a2, a3, a4⟩, ⟨d0, d1, d2, d3, d4⟩, df⟩ := X4.out
  go_region
  go_wp2
  refine bodyPost_ret (v := .tuple #[v1, .agg #[.bool true, .int .i64 c, .int .i64 p, .slice xa xn xc, .string ⟨(nm ++ (wCol ++ t)).toArray⟩]]) (by rw [results_tmp_cell rfl]; go_simp) rfl ?_
  have OO := (((((O4.set ⟨w.heap.size + 1 + 1, 0, none⟩ (.bool true) (.inr rfl)).set ⟨w.heap.size + 1 + 1, 1, none⟩ (.int .i64 c) (.inr rfl)).set ⟨w.heap.size + 1 + 1, 2, none⟩ (.int .i64 p) (.inr rfl)).set ⟨w.heap.size + 1 + 1, 3, none⟩ (.slice xa xn xc) (.inr rfl)).set ⟨w.heap.size + 1 + 1, 4, none⟩ (.string ⟨(nm ++ (wCol ++ t)).toArray⟩) (.inr rfl)).drew
  exact ⟨_, _, rfl, OO.ch B0 B2 HC.out, OO.own B0 B2 HS.out, OO.grown GG.out⟩
end Go.Proofs.YtfbnnofmplakjaaDoor
