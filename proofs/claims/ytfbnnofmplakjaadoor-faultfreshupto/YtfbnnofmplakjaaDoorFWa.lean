
/- Rows of names apart from one another; a step more, told with where the names lie. -/

import Derived.Test.YtfbnnofmplakjaaDoorFTd

import Derived.Maps.AppendAt

import Derived.Deep.DeepAppendRoom

import Derived.Laws.OwnMore

namespace Go.Proofs.YtfbnnofmplakjaaDoor

open Go.RowKit Go.Extern.Stop Go.Stop Go.Extern

set_option linter.unusedVariables false

theorem wpList_app1a {ops : Array Oper} {rest : List Oper} {o : Oper} {a : Act} {Q : Exit → Act → World → Prop} {w : World} (hgd : o.guard = none) (s x : Operand)
    (ho : o.op = .call { callee := .builtin .append, args := #[s, x], argTypes := #[27, 27] }) (B : Nat) (v : Value) (l : List (List UInt8)) (nm : List UInt8) (g : Nat) (hs : a.eval s = v) (hown : St w B v l)
    (hx : a.eval x = .slice (some ⟨g, 0, none⟩) 1 1) (hc : w.cell? ⟨g, 0, none⟩ = some (.string ⟨nm.toArray⟩)) (hl : l.length ≤ 8796093022000) (hB : B ≤ w.heap.size)
    (h : ∀ v' w', St w' B v' (l ++ [nm]) → w.grownBy w' v.ownBlock → (∃ a' n' c', v' = .slice a' n' c') → (v'.ownBlock = v.ownBlock ∨ v'.ownBlock = some w.heap.size) → wpList Tryd.prog ops Q rest (a.put o.dst v') w') : wpList Tryd.prog ops Q (o :: rest) a w := by
  obtain ⟨i9, hi9, hz9, hs9, hb9⟩ := info9
  refine wpList_append_own_at _ hgd s x 27 ho B 9 i9 (.string ⟨#[]⟩) 1 16 Tryd.underlying27 hi9 hz9 hs9 hb9 rfl (by decide) v l.length _ hs hown ⟨g, 0, none⟩ 1 1 [.string ⟨nm.toArray⟩] hx rfl ?_ ?_ ?_ ?_ hB ?_
  · intro j u hj
    match j, hj with
    | 0, hj => simp at hj; subst hj; simpa [Addr.add] using hc
  · intro u hu; simp at hu; subst hu; rfl
  · unfold maxLen; omega
  · omega
  · intro v' w' h1 h2 _ h4
    refine h v' w' ?_ h2 ?_ h4
    · have : (l ++ [nm]).length = l.length + 1 := by simp
      unfold St
      rw [this, List.map_append]
      exact h1
    · rcases h1.2 with ⟨rfl, _⟩ | ⟨g, cap, cur, rfl, _⟩ <;> exact ⟨_, _, _, rfl⟩
theorem info27 : ∃ i, Tryd.prog.info? 27 = some i ∧ i.zero = some (.slice none 0 0) ∧ i.size = 1 ∧ i.bytes = 24 := by
  obtain ⟨i, hi, h⟩ := Option.map_eq_some_iff.1 (show (Tryd.prog.info? 27).map (fun i => (i.size, i.bytes)) = some (1, 24) by kernel_rfl)
  obtain ⟨j, hj, h'⟩ := Option.map_eq_some_iff.1 (show (Tryd.prog.info? 27).map (fun i => i.zero) = some (some (.slice none 0 0)) by kernel_rfl)
  rw [hi] at hj
  obtain rfl := Option.some.inj hj
  simp at h
  exact ⟨i, hi, h', h.1, h.2⟩
/-- Two lists more, in the list of lists. -/
theorem wpList_app2 {ops : Array Oper} {rest : List Oper} {o : Oper} {a : Act} {Q : Exit → Act → World → Prop} {w : World} (hgd : o.guard = none) (s x : Operand)
    (ho : o.op = .call { callee := .builtin .append, args := #[s, x], argTypes := #[44, 44] }) (B : Nat) (v : Value) (vs : List Value) (v1 v2 : Value) (g : Nat) (hs : a.eval s = v) (hown : w.ownsRow B 27 1 v vs.length vs)
    (hx : a.eval x = .slice (some ⟨g, 0, none⟩) 2 2) (hc1 : w.cell? ⟨g, 0, none⟩ = some v1) (hc2 : w.cell? ⟨g, 1, none⟩ = some v2) (h1 : v1.oneCell' = true) (h2 : v2.oneCell' = true) (hl : vs.length ≤ 4194304) (hB : B ≤ w.heap.size)
    (h : ∀ v' w', w'.ownsRow B 27 1 v' (vs ++ [v1, v2]).length (vs ++ [v1, v2]) → w.grownBy w' v.ownBlock → (∃ a' n' c', v' = .slice a' n' c') → wpList Tryd.prog ops Q rest (a.put o.dst v') w') : wpList Tryd.prog ops Q (o :: rest) a w := by
  obtain ⟨i9, hi9, hz9, hs9, hb9⟩ := info27
  refine wpList_append_own _ hgd s x 44 ho B 27 i9 (.slice none 0 0) 1 24 Tryd.underlying44 hi9 hz9 hs9 hb9 rfl (by decide) v vs.length _ hs hown ⟨g, 0, none⟩ 2 2 [v1, v2] hx rfl ?_ ?_ ?_ ?_ hB ?_
  · intro j u hj
    match j, hj with
    | 0, hj => simp at hj; subst hj; simpa [Addr.add] using hc1
    | 1, hj => simp at hj; subst hj; simpa [Addr.add] using hc2
  · intro u hu; simp at hu; rcases hu with rfl | rfl <;> assumption
  · unfold maxLen; omega
  · omega
  · intro v' w' h1 h2 _
    refine h v' w' ?_ h2 ?_
    · have : (vs ++ [v1, v2]).length = vs.length + 2 := by simp
      rw [this]
      exact h1
    · rcases h1.2 with ⟨rfl, _⟩ | ⟨g, cap, cur, rfl, _⟩ <;> exact ⟨_, _, _, rfl⟩

set_option maxHeartbeats 2000000 in
theorem more_in_at (w : World) (B : Nat) (e nv : Value) (ls : List Lk) (b : Bs) (c p : Int) (t nm : List UInt8) (l : List (List UInt8)) (h : Ch w e ls b) (hr : St w B nv l) (hB : B ≤ w.heap.size) (hl : l.length ≤ 8796093022000) (ht : t.length ≤ 1152921504606846976) (hn : nm.length ≤ 1152921504606846976) :
    Calls Tryd.prog 11 #[e, .agg #[.bool true, .int .i64 c, .int .i64 p, nv, .string ⟨t.toArray⟩], .agg #[.int .i64 1, .string ⟨nm.toArray⟩]] w fun r w' => ∃ e' nv', r = .returned (.tuple #[e', .agg #[.bool true, .int .i64 c, .int .i64 p, nv', .string ⟨(nm ++ (wCol ++ t)).toArray⟩]]) ∧ Ch w' e' (some nm :: ls) b ∧ St w' B nv' (l ++ [nm]) ∧ w.grownBy w' nv.ownBlock ∧ (nv'.ownBlock = nv.ownBlock ∨ ∃ g, nv'.ownBlock = some g ∧ w.heap.size ≤ g) := by
  have X0 := bx_new w true c p nv t 1 nm
  have k0 : Below w.heap.size w _ := ((box_below w (.cells #[.bool true, .int .i64 c, .int .i64 p, nv, .string ⟨t.toArray⟩] 29)).alloc (by simp) (.cells #[.int .i64 1, .string ⟨nm.toArray⟩] 35)).alloc (by simp; omega) (.cells #[.bool false, .int .i64 0, .int .i64 0, .slice none 0 0, .string ⟨#[]⟩] 29)
  have cI := in_any nm _ e ls b (Ch.below k0 (Nat.le_refl _) h)
  have hnv : ∃ a n cc, nv = .slice a n cc := by
    rcases hr.2 with ⟨rfl, _⟩ | ⟨g, cap, cur, rfl, _⟩ <;> exact ⟨_, _, _, rfl⟩
  have hrow : ∀ g, nv.ownBlock = some g → g < w.heap.size := fun g hg => (hr.lt g hg).2
  obtain ⟨te, ve, rfl⟩ := h.iface
  have q1 : ¬ 9223372036854775807 < nm.length + 2 := by omega
  have q2 : ¬ 9223372036854775807 < nm.length + 2 + t.length := by omega
  obtain ⟨na, nn, nc, rfl⟩ := hnv
  go_enter Tryd.func11, Tryd.ntmps11
  go_upto_region 4 with (go_at_call 13; (with_reducible refine cI.mono ?_); rintro e w1 ⟨v1, rfl, hc1, b1⟩; have X1 := X0.below b1; have K1 := k0.trans (b1.mono k0.size); have hr1 := own_below (own_below (own_below hr k0) b1) (box_below w1 (.cells #[.string ⟨nm.toArray⟩] 9)); obtain ⟨z0, z3, z4, y0, y1⟩ := X1.c)
  have X1a := X1.below (box_below w1 (.cells #[.string ⟨nm.toArray⟩] 9))
  have hc1a := Ch.below (box_below w1 (.cells #[.string ⟨nm.toArray⟩] 9)) (Nat.le_refl _) hc1
  have K1a := K1.alloc K1.size (.cells #[.string ⟨nm.toArray⟩] 9)
  have hBa : B ≤ (w1.alloc (.cells #[.string ⟨nm.toArray⟩] 9)).heap.size := Nat.le_trans hB K1a.size
  go_upto_region 5 with (at_builtin; refine wpList_app1a rfl _ _ rfl B _ l nm w1.heap.size rfl hr1 rfl (by simp) hl hBa ?_; intro v2 w2 S2 G2 hv2 at2; obtain ⟨xa, xn, xc, rfl⟩ := hv2; have X2 := X1a.grown G2 hrow; have f2 := X2.f 3; obtain ⟨-, x3, -, -, -⟩ := X2.c)
  have hc2 := hc1a.grown G2 hr1
  have X3 := X2.set3 (.slice xa xn xc)
  have O3 := (Only.refl w.heap.size (w.heap.size + 1 + 1) w2).set ⟨w.heap.size, 3, none⟩ (.slice xa xn xc) (.inl rfl)
  have GG : Hid (w.grownBy w2 (Value.slice na nn nc).ownBlock) := ⟨G2.os.trans K1a.os, G2.tape.trans K1a.tape, G2.output.trans K1a.output, Nat.le_trans K1a.size G2.size, fun k hk hne => (G2.block k (Nat.lt_of_lt_of_le hk K1a.size) hne).trans (K1a.block k hk)⟩
  have HC : Hid (Ch w2 v1 (some nm :: ls) b) := hc2
  have HS : Hid (St w2 B (.slice xa xn xc) (l ++ [nm])) := S2
  have HA : Hid ((Value.slice xa xn xc).ownBlock = (Value.slice na nn nc).ownBlock ∨ ∃ g, (Value.slice xa xn xc).ownBlock = some g ∧ w.heap.size ≤ g) := by
    rcases at2 with h1 | h1
    · exact .inl h1
    · exact .inr ⟨_, h1, K1a.size⟩
  clear at2
  have B0 := X2.b0
  have B2 := X2.b2
  generalize w2.setCell ⟨w.heap.size, 3, none⟩ (.slice xa xn xc) = W3 at *
  obtain ⟨z0', z3', z4', y0', y1'⟩ := X3.c
  have f3 := X3.f 4
  clear X0 k0 cI hrow hc1 b1 X1 K1 hr1 z0 z3 z4 y0 y1 X1a hc1a K1a hBa hc2 X2 G2 S2 h hr f2 x3
  go_upto_region 9 with fail
  rw [show (⟨nm.toArray⟩ : ByteArray) ++ ⟨#[58, 32]⟩ ++ ⟨t.toArray⟩ = ⟨(nm ++ (wCol ++ t)).toArray⟩ from by rw [show (⟨#[58, 32]⟩ : ByteArray) = ⟨wCol.toArray⟩ from rfl, bs_app, bs_app, List.append_assoc]]
  have X4 := X3.set4 (nm ++ (wCol ++ t))
  have O4 := O3.set ⟨w.heap.size, 4, none⟩ (.string ⟨(nm ++ (wCol ++ t)).toArray⟩) (.inl rfl)
  generalize W3.setCell ⟨w.heap.size, 4, none⟩ (.string ⟨(nm ++ (wCol ++ t)).toArray⟩) = W4 at *
  clear z0' z3' z4' y0' y1' f3 X3
  obtain ⟨⟨a0, a1, a2, a3, a4⟩, ⟨d0, d1, d2, d3, d4⟩, df⟩ := X4.out
  go_region
  go_wp2
  refine bodyPost_ret (v := .tuple #[v1, .agg #[.bool true, .int .i64 c, .int .i64 p, .slice xa xn xc, .string ⟨(nm ++ (wCol ++ t)).toArray⟩]]) (by rw [results_tmp_cell rfl]; go_simp) rfl ?_
  have OO := (((((O4.set ⟨w.heap.size + 1 + 1, 0, none⟩ (.bool true) (.inr rfl)).set ⟨w.heap.size + 1 + 1, 1, none⟩ (.int .i64 c) (.inr rfl)).set ⟨w.heap.size + 1 + 1, 2, none⟩ (.int .i64 p) (.inr rfl)).set ⟨w.heap.size + 1 + 1, 3, none⟩ (.slice xa xn xc) (.inr rfl)).set ⟨w.heap.size + 1 + 1, 4, none⟩ (.string ⟨(nm ++ (wCol ++ t)).toArray⟩) (.inr rfl)).drew
  exact ⟨_, _, rfl, OO.ch B0 B2 HC.out, OO.own B0 B2 HS.out, OO.grown GG.out, HA.out⟩
theorem more_any_at (w : World) (B : Nat) (e : Value) (na : Option Addr) (nn nc : Nat) (ls : List Lk) (b : Bs) (kk : Int) (nm : List UInt8) (h : Ch w e ls b) (hr : St w B (.slice na nn nc) (nms ls)) (hB : B ≤ w.heap.size) (hl : ls.length ≤ 8796093022000) (ht : (tx ls b).length ≤ 1152921504606846976) (hn : nm.length ≤ 1152921504606846976) :
    Calls Tryd.prog 11 #[e, bk b na nn nc (tx ls b), .agg #[.int .i64 kk, .string ⟨nm.toArray⟩]] w fun r w' => ∃ e' na' nn' nc', r = .returned (.tuple #[e', bk b na' nn' nc' (tx (stp ls kk nm) b)]) ∧ Ch w' e' (stp ls kk nm) b ∧ St w' B (.slice na' nn' nc') (nms (stp ls kk nm)) ∧ w.grownBy w' (Value.slice na nn nc).ownBlock ∧ ((Value.slice na' nn' nc').ownBlock = (Value.slice na nn nc).ownBlock ∨ ∃ g, (Value.slice na' nn' nc').ownBlock = some g ∧ w.heap.size ≤ g) := by
  by_cases h1 : kk = 1
  · subst h1
    have e1 : stp ls 1 nm = some nm :: ls := rfl
    refine (more_in_at w B e _ ls b (cdE b) (plc b) (tx ls b) nm (nms ls) h hr hB (Nat.le_trans (nms_len ls) hl) ht hn).mono ?_
    rintro r w' ⟨e', nv', rfl, hc, hs, hg, ha⟩
    obtain ⟨a, c, rfl⟩ := own_slice hs
    exact ⟨e', _, _, _, rfl, hc, by rw [e1, nms_some]; exact hs, hg, ha⟩
  · by_cases h2 : kk = 2
    · subst h2
      have e1 : stp ls 2 nm = none :: ls := rfl
      refine (more_out w e na nn nc ls b (cdE b) (plc b) (tx ls b) nm h ht).mono ?_
      rintro r w' ⟨e', rfl, hc, hb⟩
      exact ⟨e', _, _, _, rfl, hc, by rw [e1, nms_none]; exact own_below hr hb, grown_of hb _, .inl rfl⟩
    · have e1 : stp ls kk nm = ls := by unfold stp; rw [if_neg h1, if_neg h2]
      obtain ⟨te, ve, rfl⟩ := h.iface
      refine (more_idle w te ve na nn nc (cdE b) (plc b) (tx ls b) nm kk h1 h2).mono ?_
      rintro r w' ⟨rfl, hb⟩
      exact ⟨_, _, _, _, by rw [e1], by rw [e1]; exact Ch.below hb (Nat.le_refl _) h, by rw [e1]; exact own_below hr hb, grown_of hb _, .inl rfl⟩

theorem own_at {w : World} {B t n : Nat} {v : Value} {xs : List Value} {g : Nat} (h : w.ownsRow B t 1 v n xs) (hv : v.ownBlock = some g) : ∃ cs, w.heap[g]? = some (.cells cs t (0, 0)) := by
  rcases h.2 with ⟨rfl, _⟩ | ⟨g', cap, cur, rfl, _, hg, _⟩
  · simp [Value.ownBlock] at hv
  · simp [Value.ownBlock] at hv; subst hv; exact ⟨_, hg⟩
theorem own_ne {w : World} {B B' t t' n n' : Nat} {v v' : Value} {xs xs' : List Value} (h : w.ownsRow B t 1 v n xs) (h' : w.ownsRow B' t' 1 v' n' xs') (ht : t ≠ t') {g : Nat} (hv : v.ownBlock = some g) : v'.ownBlock ≠ some g := by
  intro e
  obtain ⟨cs, h1⟩ := own_at h hv
  obtain ⟨cs', h2⟩ := own_at h' e
  rw [h1] at h2
  simp at h2
  exact ht h2.2
theorem kept_ne {w w' : World} {B t n : Nat} {v : Value} {xs : List Value} {row : Option Nat} (h : w.ownsRow B t 1 v n xs) (hg : w.grownBy w' row) (hne : ∀ g, v.ownBlock = some g → row ≠ some g) : w'.ownsRow B t 1 v n xs := by
  refine h.kept hg ?_
  cases hv : v.ownBlock with
  | none => exact .inl rfl
  | some g => exact .inr fun e => hne g hv e.symm
theorem Only.by {q : Nat} {W W' : World} (h : Only q q W W') : W.grownBy W' (some q) :=
  ⟨h.os, h.tape, h.output, Nat.le_of_eq h.size.symm, fun k _ hk => h.block k (fun e => hk (by rw [e])) (fun e => hk (by rw [e]))⟩
theorem wr5_by (V : World) (q : Nat) (x0 x1 x2 x3 x4 : Value) : V.grownBy (wr5 V q x0 x1 x2 x3 x4) (some q) :=
  ((((((Only.refl q q V).set ⟨q, 0, none⟩ x0 (.inl rfl)).set ⟨q, 1, none⟩ x1 (.inl rfl)).set ⟨q, 2, none⟩ x2 (.inl rfl)).set ⟨q, 3, none⟩ x3 (.inl rfl)).set ⟨q, 4, none⟩ x4 (.inl rfl)).by

/-- Lists of names, each in memory of its own. -/
structure Rws (W : World) (B : Nat) (vs : List Value) (P : Nat → List (List UInt8) → Prop) : Prop where
  own : ∀ (i : Nat) (v : Value), vs[i]? = some v → ∃ l, St W B v l ∧ P i l
  apart : ∀ (i j : Nat) (v u : Value) (g : Nat), vs[i]? = some v → vs[j]? = some u → v.ownBlock = some g → u.ownBlock = some g → i = j
theorem Rws.kept {W W' : World} {B : Nat} {vs : List Value} {P : Nat → List (List UInt8) → Prop} {row : Option Nat} (h : Rws W B vs P) (hg : W.grownBy W' row) (hne : ∀ (i : Nat) (v : Value) (g : Nat), vs[i]? = some v → v.ownBlock = some g → row ≠ some g) : Rws W' B vs P :=
  ⟨fun i v hi => by obtain ⟨l, hs, hp⟩ := h.own i v hi; exact ⟨l, kept_ne hs hg fun g hv => hne i v g hi hv, hp⟩, h.apart⟩
theorem Rws.below {W W' : World} {B : Nat} {vs : List Value} {P : Nat → List (List UInt8) → Prop} (h : Rws W B vs P) (hb : Below W.heap.size W W') : Rws W' B vs P :=
  ⟨fun i v hi => by obtain ⟨l, hs, hp⟩ := h.own i v hi; exact ⟨l, own_below hs hb, hp⟩, h.apart⟩
theorem Rws.imp {W : World} {B : Nat} {vs : List Value} {P P' : Nat → List (List UInt8) → Prop} (h : Rws W B vs P) (hp : ∀ i l, P i l → P' i l) : Rws W B vs P' :=
  ⟨fun i v hi => by obtain ⟨l, hs, h1⟩ := h.own i v hi; exact ⟨l, hs, hp i l h1⟩, h.apart⟩
/-- One row is written, or grown in its place. -/
theorem Rws.step {W W' : World} {B : Nat} {vs vs' : List Value} {P P' : Nat → List (List UInt8) → Prop} {i g : Nat} {v v' : Value} {l' : List (List UInt8)} (h : Rws W B vs P) (hi : vs[i]? = some v) (hv : v.ownBlock = some g) (hg : W.grownBy W' (some g))
    (hv' : v'.ownBlock = some g) (hs : St W' B v' l') (hp : P' i l') (hq : ∀ j l, j ≠ i → P j l → P' j l) (hvs : ∀ j u, vs'[j]? = some u → (j = i ∧ u = v') ∨ (j ≠ i ∧ vs[j]? = some u)) : Rws W' B vs' P' := by
  refine ⟨fun j u hj => ?_, fun j k u x y hj hk hu hx => ?_⟩
  · rcases hvs j u hj with ⟨rfl, rfl⟩ | ⟨hne, hj'⟩
    · exact ⟨l', hs, hp⟩
    · obtain ⟨l, h1, h2⟩ := h.own j u hj'
      refine ⟨l, kept_ne h1 hg fun g' hu e => hne ?_, hq j l hne h2⟩
      injection e with e; subst e
      exact h.apart j i u v g hj' hi hu hv
  · rcases hvs j u hj with ⟨rfl, rfl⟩ | ⟨hne, hj'⟩ <;> rcases hvs k x hk with ⟨rfl, rfl⟩ | ⟨hne2, hk'⟩
    · rfl
    · rw [hv'] at hu
      injection hu with hu; subst hu
      exact absurd (h.apart k j x v g hk' hi hx hv) hne2
    · rw [hv'] at hx
      injection hx with hx; subst hx
      exact absurd (h.apart j k u v g hj' hi hu hv) hne
    · exact h.apart j k u x y hj' hk' hu hx
/-- Two rows more, of new memory. -/
theorem Rws.two {W W' : World} {B C : Nat} {vs : List Value} {P : Nat → List (List UInt8) → Prop} {v1 v2 : Value} {l1 l2 : List (List UInt8)} {D : Nat} (h : Rws W' B vs P) (hC : ∀ (i : Nat) (v : Value) (g : Nat), vs[i]? = some v → v.ownBlock = some g → g < C) (hCB : B ≤ C)
    (h1 : St W' C v1 l1) (h2 : St W' D v2 l2) (hCD : C ≤ D) (h12 : ∀ g, v1.ownBlock = some g → g < D) (p1 : P vs.length l1) (p2 : P (vs.length + 1) l2) : Rws W' B (vs ++ [v1, v2]) P := by
  have key : ∀ i v, (vs ++ [v1, v2])[i]? = some v → vs[i]? = some v ∧ i < vs.length ∨ (i = vs.length ∧ v = v1) ∨ (i = vs.length + 1 ∧ v = v2) := by
    intro i v hi
    by_cases hlt : i < vs.length
    · rw [List.getElem?_append_left hlt] at hi; exact .inl ⟨hi, hlt⟩
    · rw [List.getElem?_append_right (by omega)] at hi
      match hk : i - vs.length, hi with
      | 0, hi => simp at hi; exact .inr (.inl ⟨by omega, hi.symm⟩)
      | 1, hi => simp at hi; exact .inr (.inr ⟨by omega, hi.symm⟩)
      | n + 2, hi => simp at hi
  refine ⟨fun i v hi => ?_, fun i j v u g hi hj hv hu => ?_⟩
  · rcases key i v hi with ⟨hi, _⟩ | ⟨rfl, rfl⟩ | ⟨rfl, rfl⟩
    · exact h.own i v hi
    · exact ⟨l1, ⟨h1.1, h1.2.imp id fun ⟨g, cap, cur, e, hb, r⟩ => ⟨g, cap, cur, e, by omega, r⟩⟩, p1⟩
    · exact ⟨l2, ⟨h2.1, h2.2.imp id fun ⟨g, cap, cur, e, hb, r⟩ => ⟨g, cap, cur, e, by omega, r⟩⟩, p2⟩
  · rcases key i v hi with ⟨hi', a1⟩ | ⟨rfl, rfl⟩ | ⟨rfl, rfl⟩ <;> rcases key j u hj with ⟨hj', a2⟩ | ⟨rfl, rfl⟩ | ⟨rfl, rfl⟩
    · exact h.apart i j v u g hi' hj' hv hu
    · have := hC i v g hi' hv; have := (h1.lt g hu).1; omega
    · have := hC i v g hi' hv; have := (h2.lt g hu).1; omega
    · have := hC j u g hj' hu; have := (h1.lt g hv).1; omega
    · rfl
    · have := h12 g hv; have := (h2.lt g hu).1; omega
    · have := hC j u g hj' hu; have := (h2.lt g hv).1; omega
    · have := h12 g hu; have := (h2.lt g hv).1; omega
    · rfl
theorem Rws.lt {W : World} {B : Nat} {vs : List Value} {P : Nat → List (List UInt8) → Prop} (h : Rws W B vs P) (i : Nat) (v : Value) (g : Nat) (hi : vs[i]? = some v) (hv : v.ownBlock = some g) : g < W.heap.size := by
  obtain ⟨l, hs, _⟩ := h.own i v hi
  exact (hs.lt g hv).2
end Go.Proofs.YtfbnnofmplakjaaDoor
