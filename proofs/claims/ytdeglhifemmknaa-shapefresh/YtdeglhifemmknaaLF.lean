
/- ShapeFresh: what a call answers. -/

import Derived.Test.YtdeglhifemmknaaLE

import Derived.Deep.DeepCutAuto

namespace Go.Proofs.Ytdeglhifemmknaa

open Go.RowKit

set_option linter.unusedVariables false

theorem box5L {W : World} {g : Nat} {a b c d e : Value} {t : TypeId} (h : W.heap[g]? = some (.cells #[a, b, c, d, e] t (0, 0))) :
    (W.cell? ⟨g, 0, none⟩ = some a ∧ W.cell? ⟨g, 1, none⟩ = some b ∧ W.cell? ⟨g, 2, none⟩ = some c ∧ W.cell? ⟨g, 3, none⟩ = some d ∧ W.cell? ⟨g, 4, none⟩ = some e) ∧ ∀ j, W.frozen? ⟨g, j, none⟩ = false :=
  ⟨⟨(cell_of_row W g 0 _ t (0, 0) h).trans rfl, (cell_of_row W g 1 _ t (0, 0) h).trans rfl, (cell_of_row W g 2 _ t (0, 0) h).trans rfl, (cell_of_row W g 3 _ t (0, 0) h).trans rfl, (cell_of_row W g 4 _ t (0, 0) h).trans rfl⟩, fun j => frozen_of_row W g j _ t h⟩
theorem set5_1 {W : World} {g : Nat} {a b c d e : Value} {t : TypeId} (v : Value) (h : W.heap[g]? = some (.cells #[a, b, c, d, e] t (0, 0))) : (W.setCell ⟨g, 1, none⟩ v).heap[g]? = some (.cells #[a, v, c, d, e] t (0, 0)) := (heap_setCell_same W g 1 _ t v h).trans (by simp)
theorem set5_2 {W : World} {g : Nat} {a b c d e : Value} {t : TypeId} (v : Value) (h : W.heap[g]? = some (.cells #[a, b, c, d, e] t (0, 0))) : (W.setCell ⟨g, 2, none⟩ v).heap[g]? = some (.cells #[a, b, v, d, e] t (0, 0)) := (heap_setCell_same W g 2 _ t v h).trans (by simp)
theorem set5_4 {W : World} {g : Nat} {a b c d e : Value} {t : TypeId} (v : Value) (h : W.heap[g]? = some (.cells #[a, b, c, d, e] t (0, 0))) : (W.setCell ⟨g, 4, none⟩ v).heap[g]? = some (.cells #[a, b, c, d, v] t (0, 0)) := (heap_setCell_same W g 4 _ t v h).trans (by simp)

/-- The two calls of a law's call: its own, and the one that is handed in. -/
structure Two (w V : World) (K N : Int) (so ro lo uo vo oo : Option Addr) (sn sc rn rc n lc uc vc on oc : Nat) : Prop where
  b0 : V.heap[w.heap.size]? = some (.cells #[.int .i64 K, .slice so sn sc, .slice ro rn rc, .int .i64 N, .slice lo n lc] 31 (0, 0))
  b1 : V.heap[w.heap.size + 1]? = some (.cells #[.int .i64 K, .slice uo sn uc, .slice vo rn vc, .int .i64 N, .slice oo on oc] 31 (0, 0))
  bel : Below w.heap.size w V
  two : w.heap.size + 2 ≤ V.heap.size
theorem Two.below {w V V' : World} {K N : Int} {so ro lo uo vo oo : Option Addr} {sn sc rn rc n lc uc vc on oc B : Nat} (h : Two w V K N so ro lo uo vo oo sn sc rn rc n lc uc vc on oc) (k : Below B V V') (hB : w.heap.size + 2 ≤ B) : Two w V' K N so ro lo uo vo oo sn sc rn rc n lc uc vc on oc :=
  ⟨(k.block _ (by omega)).trans h.b0, (k.block _ (by omega)).trans h.b1, h.bel.trans (k.mono (by omega)), Nat.le_trans h.two k.size⟩

theorem step_pushB {t e : TypeId} (hund : Try.prog.underlying t = some (.slice e)) (hinfo : (Try.prog.info? e).map (fun i => (i.zero, i.size, i.bytes)) = some (some (.slice none 0 0), 1, 24)) {ops : Array Oper} {o : Oper} {a : Act} {w : World} {K : Act → World → Prop} {Q : Exit → Act → World → Prop} {E : Prop}
    (hg : o.guard = none) (s x : Operand) (hop : o.op = Op.call { callee := Callee.builtin Builtin.append, args := #[s, x], argTypes := #[t, t] })
    (B : Nat) (hB : B ≤ w.heap.size) (v : Value) (n : Nat) (xs : List Value) (hs : a.eval s = v) (hown : w.ownsRow B e 1 v n xs) (g : Nat) (hx : a.eval x = .slice (some ⟨g, 0, none⟩) 1 1) (y : Value) (hc : w.cell? ⟨g, 0, none⟩ = some y) (hy : y.oneCell' = true) (hn : (n + 1) * 24 ≤ 140737488355328)
    (hK : ∀ v' w', w'.ownsRow B e 1 v' (n + 1) (xs ++ [y]) → w.grownBy w' v.ownBlock → (v'.ownBlock = v.ownBlock ∨ v'.ownBlock = some w.heap.size) → K (a.put o.dst v') w') :
    if Region.wanted o (yielded ops a.tmps) = true then Oper.wp Try.prog o a w K Q else E := by
  have hw : Region.wanted o (yielded ops a.tmps) = true := by simp [Region.wanted, hg]
  rw [if_pos hw]
  obtain ⟨i0, hi, hz0, hz1, hz2⟩ := info_parts hinfo
  obtain ⟨v', w', hrun, h1, h2, _, h4⟩ := run_append_own_at (P := Try.prog) w B t o.type e i0 (.slice none 0 0) 1 24 hund hi hz0 hz1 hz2 rfl (by decide) v n xs hown ⟨g, 0, none⟩ 1 1 [y] rfl
    (fun j u hj => by
      match j, hj with
      | 0, hj => simp at hj; subst hj; simpa [Addr.add] using hc) (fun u hu => by simp at hu; subst hu; exact hy) (by unfold maxLen; omega) (by omega) hB
  unfold Oper.wp
  simp [execOp, hop, resolve, invoke, builtin, hs, hx, hrun, Result.andThen]
  exact hK _ _ h1 h2 h4
theorem Two.set1 {w V : World} {K N : Int} {so ro lo uo vo oo uo' : Option Addr} {sn sc rn rc n lc uc vc on oc uc' : Nat} (h : Two w V K N so ro lo uo vo oo sn sc rn rc n lc uc vc on oc) : Two w (V.setCell ⟨w.heap.size + 1, 1, none⟩ (.slice uo' sn uc')) K N so ro lo uo' vo oo sn sc rn rc n lc uc' vc on oc :=
  ⟨(heap_setCell_other V ⟨w.heap.size + 1, 1, none⟩ _ _ (by simp)).trans h.b0, set5_1 _ h.b1, h.bel.setCell (p := ⟨w.heap.size + 1, 1, none⟩) (by simp) _, by simpa using h.two⟩
theorem Two.set2 {w V : World} {K N : Int} {so ro lo uo vo oo vo' : Option Addr} {sn sc rn rc n lc uc vc on oc vc' : Nat} (h : Two w V K N so ro lo uo vo oo sn sc rn rc n lc uc vc on oc) : Two w (V.setCell ⟨w.heap.size + 1, 2, none⟩ (.slice vo' rn vc')) K N so ro lo uo vo' oo sn sc rn rc n lc uc vc' on oc :=
  ⟨(heap_setCell_other V ⟨w.heap.size + 1, 2, none⟩ _ _ (by simp)).trans h.b0, set5_2 _ h.b1, h.bel.setCell (p := ⟨w.heap.size + 1, 2, none⟩) (by simp) _, by simpa using h.two⟩
theorem Two.set4 {w V : World} {K N : Int} {so ro lo uo vo oo oo' : Option Addr} {sn sc rn rc n lc uc vc on oc on' oc' : Nat} (h : Two w V K N so ro lo uo vo oo sn sc rn rc n lc uc vc on oc) : Two w (V.setCell ⟨w.heap.size + 1, 4, none⟩ (.slice oo' on' oc')) K N so ro lo uo vo oo' sn sc rn rc n lc uc vc on' oc' :=
  ⟨(heap_setCell_other V ⟨w.heap.size + 1, 4, none⟩ _ _ (by simp)).trans h.b0, set5_4 _ h.b1, h.bel.setCell (p := ⟨w.heap.size + 1, 4, none⟩) (by simp) _, by simpa using h.two⟩
theorem Fr.low {V : World} {M p o : Nat} {a : Option Addr} {n c : Nat} {zs : List Int} (h : Fr V M a n c zs) (hp : p < M) (v : Value) : Fr (V.setCell ⟨p, o, none⟩ v) M a n c zs :=
  h.chg (Chg.of_grown (set1L V p o v)) fun g hg e => by have := (h.geL hg).1; have := Option.some.inj e; omega
theorem Lg.low {V : World} {M p o : Nat} {go : Option Addr} {k gc : Nat} {f : Nat → List Int} {gs : List Value} (h : Lg V M go k gc f gs) (hp : p < M) (v : Value) : Lg (V.setCell ⟨p, o, none⟩ v) M go k gc f gs :=
  h.chg (Chg.of_grown (set1L V p o v)) fun g e => .inl (by have := Option.some.inj e; omega)
theorem Fr.past {A W9 : World} {M k : Nat} {a : Option Addr} {n c : Nat} {zs : List Int} {v : Value} {gs : List Value} (h : Fr A M a n c zs) (ho : A.ownsRow M 28 1 v k gs) (g9 : A.grownBy W9 v.ownBlock) : Fr W9 M a n c zs :=
  h.chg (Chg.of_grown g9) fun g hg e => by
    obtain ⟨cs, hc⟩ := ownB h.own hg
    obtain ⟨cs', hc'⟩ := ownB ho e
    exact absurd (kindB hc hc') (by decide)
theorem step_copyL {ops : Array Oper} {o : Oper} {a : Act} {w : World} {K : Act → World → Prop} {Q : Exit → Act → World → Prop} {E : Prop} (hg : o.guard = none) (s x : Operand) (hop : o.op = Op.call { callee := Callee.builtin Builtin.append, args := #[s, x], argTypes := #[28, 28] })
    (ao : Option Addr) (n cap : Nat) (zs : List Int) (hs : a.eval s = .slice none 0 0) (hx : a.eval x = .slice ao n cap) (h : Rd w ao n zs)
    (hK : ∀ ao' cap' w', Fr w' w.heap.size ao' n cap' zs → Below w.heap.size w w' → K (a.put o.dst (.slice ao' n cap')) w') :
    if Region.wanted o (yielded ops a.tmps) = true then Oper.wp Try.prog o a w K Q else E := by
  have hw : Region.wanted o (yielded ops a.tmps) = true := by simp [Region.wanted, hg]
  rw [if_pos hw]
  obtain ⟨ao', cap', w', hrun, hf, hb⟩ := run_copy o.type ao n cap zs h
  unfold Oper.wp
  simp [execOp, hop, resolve, invoke, builtin, hs, hx, hrun, Result.andThen]
  exact hK _ _ _ hf hb
theorem ans_one {w V : World} {a a' : Option Addr} {n c n' c' : Nat} {zs : List Int} (hw : Below w.heap.size w V) (h : Fr V w.heap.size a n c zs) (h' : Fr V w.heap.size a' n' c' zs) (q : Nat) :
    Ans w (((V.alloc (.cells #[.slice a n c] 28)).alloc (.cells #[.slice a' n' c'] 28)).drewN q) (some ⟨V.heap.size, 0, none⟩) (some ⟨V.heap.size + 1, 0, none⟩) 1 1 1 (fun _ => zs) [.slice a n c] [.slice a' n' c'] := by
  have b1 := box_belowL V (.cells #[.slice a n c] 28)
  have b2 := box_belowL (V.alloc (.cells #[.slice a n c] 28)) (.cells #[.slice a' n' c'] 28)
  have b3 := below_drewN (Below.refl ((V.alloc (.cells #[.slice a n c] 28)).alloc (.cells #[.slice a' n' c'] 28)).heap.size ((V.alloc (.cells #[.slice a n c] 28)).alloc (.cells #[.slice a' n' c'] 28))) q
  have g1 : Lg (V.alloc (.cells #[.slice a n c] 28)) w.heap.size (some ⟨V.heap.size, 0, none⟩) 1 1 (fun _ => zs) [.slice a n c] := Lg.one hw.size h
  have g2 : Lg ((V.alloc (.cells #[.slice a n c] 28)).alloc (.cells #[.slice a' n' c'] 28)) w.heap.size (some ⟨(V.alloc (.cells #[.slice a n c] 28)).heap.size, 0, none⟩) 1 1 (fun _ => zs) [.slice a' n' c'] := Lg.one (Nat.le_trans hw.size b1.size) (h'.below b1 (Nat.le_refl _))
  rw [World.size_alloc] at g2
  exact ⟨(g1.below b2).below b3, g2.below b3, ((hw.trans (b1.mono hw.size)).trans (b2.mono (Nat.le_trans hw.size b1.size))).trans (b3.mono (Nat.le_trans (Nat.le_trans hw.size b1.size) b2.size)), by omega⟩
theorem ans_two {w V : World} {a a' d d' : Option Addr} {n c n' c' e e' m m' : Nat} {zs ys : List Int} (hw : Below w.heap.size w V) (h : Fr V w.heap.size a n c zs) (h' : Fr V w.heap.size a' n' c' ys) (ha : Go.Proofs.Ytdeglhifemmknaa.apart a a') (k : Fr V w.heap.size d m e zs) (k' : Fr V w.heap.size d' m' e' ys) (hd : Go.Proofs.Ytdeglhifemmknaa.apart d d') (q : Nat) :
    Ans w (((V.alloc (.cells #[.slice a n c, .slice a' n' c'] 28)).alloc (.cells #[.slice d m e, .slice d' m' e'] 28)).drewN q) (some ⟨V.heap.size, 0, none⟩) (some ⟨V.heap.size + 1, 0, none⟩) 2 2 2 (fun j => if j = 0 then zs else ys) [.slice a n c, .slice a' n' c'] [.slice d m e, .slice d' m' e'] := by
  have b1 := box_belowL V (.cells #[.slice a n c, .slice a' n' c'] 28)
  have b2 := box_belowL (V.alloc (.cells #[.slice a n c, .slice a' n' c'] 28)) (.cells #[.slice d m e, .slice d' m' e'] 28)
  have b3 := below_drewN (Below.refl ((V.alloc (.cells #[.slice a n c, .slice a' n' c'] 28)).alloc (.cells #[.slice d m e, .slice d' m' e'] 28)).heap.size ((V.alloc (.cells #[.slice a n c, .slice a' n' c'] 28)).alloc (.cells #[.slice d m e, .slice d' m' e'] 28))) q
  have g1 : Lg (V.alloc (.cells #[.slice a n c, .slice a' n' c'] 28)) w.heap.size (some ⟨V.heap.size, 0, none⟩) 2 2 (fun j => if j = 0 then zs else ys) [.slice a n c, .slice a' n' c'] := Lg.two hw.size h h' ha
  have g2 : Lg ((V.alloc (.cells #[.slice a n c, .slice a' n' c'] 28)).alloc (.cells #[.slice d m e, .slice d' m' e'] 28)) w.heap.size (some ⟨(V.alloc (.cells #[.slice a n c, .slice a' n' c'] 28)).heap.size, 0, none⟩) 2 2 (fun j => if j = 0 then zs else ys) [.slice d m e, .slice d' m' e'] := Lg.two (Nat.le_trans hw.size b1.size) (k.below b1 (Nat.le_refl _)) (k'.below b1 (Nat.le_refl _)) hd
  rw [World.size_alloc] at g2
  exact ⟨(g1.below b2).below b3, g2.below b3, ((hw.trans (b1.mono hw.size)).trans (b2.mono (Nat.le_trans hw.size b1.size))).trans (b3.mono (Nat.le_trans (Nat.le_trans hw.size b1.size) b2.size)), by omega⟩
theorem eqL {W : World} {a a' : Option Addr} {n c n' c' : Nat} {zs : List Int} (h : Rd W a n zs) (h' : Rd W a' n' zs) : Calls Try.prog 11 #[.slice a n c, .slice a' n' c'] W fun e w' => e = .returned (.bool true) ∧ ∃ q, w' = W.drewN q := by
  have := eqInts_any a a' n n' c c' _ _ W h h'
  rwa [eqB_refl] at this
set_option maxRecDepth 20000 in
set_option maxHeartbeats 16000000 in
theorem lists_go (K N : Int) (so ro lo : Option Addr) (sn sc rn rc n lc : Nat) (S T : List Int) (Z : List (List Int)) (w : World) (hS : Rd w so sn S) (sS : Sl so sn sc) (hT : Rd w ro rn T) (sT : Sl ro rn rc) (hZ : Rs w lo n Z) (N1 : -9223372036854775808 ≤ N) (N2 : N ≤ 9223372036854775807) (hK8 : (K == 8) = false) :
    Calls Try.prog 7 #[.agg #[.int .i64 K, .slice so sn sc, .slice ro rn rc, .int .i64 N, .slice lo n lc]] w fun e w' => ∃ lo' mo' m lc' mc' f gs ms, e = .returned (.tuple #[.slice lo' m lc', .slice mo' m mc', .bool true]) ∧ Ans w w' lo' mo' m lc' mc' f gs ms := by
  have rS := hS.room
  have rT := hT.room
  have H0 : Two w ((w.alloc (.cells #[.int .i64 K, .slice so sn sc, .slice ro rn rc, .int .i64 N, .slice lo n lc] 31)).alloc (.cells #[.int .i64 K, .slice so sn sc, .slice ro rn rc, .int .i64 N, .slice lo n lc] 31)) K N so ro lo so ro lo sn sc rn rc n lc sc rc n lc := by
    have z0 := allocNewL w (.cells #[.int .i64 K, .slice so sn sc, .slice ro rn rc, .int .i64 N, .slice lo n lc] 31)
    have z1 := allocNewL (w.alloc (.cells #[.int .i64 K, .slice so sn sc, .slice ro rn rc, .int .i64 N, .slice lo n lc] 31)) (.cells #[.int .i64 K, .slice so sn sc, .slice ro rn rc, .int .i64 N, .slice lo n lc] 31)
    rw [World.size_alloc] at z1
    exact ⟨(heap_alloc_old _ _ (by simp)).trans z0, z1, ((Below.refl _ w).alloc (Nat.le_refl _) _).alloc (by simp) _, by simp⟩
  have HH0 := (show Hid _ from H0)
  obtain ⟨⟨a0, a1, a2, a3, a4⟩, fa⟩ := box5L H0.b0
  have hS2 := hS.below H0.bel (Nat.le_refl _)
  clear H0
  go_enter Try.func7, Try.ntmps7
  go_upto_region 2 with fail
  generalize (w.alloc (.cells #[.int .i64 K, .slice so sn sc, .slice ro rn rc, .int .i64 N, .slice lo n lc] 31)).alloc (.cells #[.int .i64 K, .slice so sn sc, .slice ro rn rc, .int .i64 N, .slice lo n lc] 31) = W2 at *
  go_upto_region 3 with (at_builtin; refine wpList_join rfl (.const (.slice none 0 0)) (.tmp 21) rfl (w.heap.size + 2) none so 0 0 sn sc [] S rfl rfl (Fr.nil _ _) hS2 sS (by omega) HH0.out.two ?_; intro co1 c1 w3 f1 b1; rw [Nat.zero_add] at f1; rw [List.nil_append] at f1; have H3 := HH0.out.below b1 (Nat.le_refl _); obtain ⟨⟨d0, d1, d2, d3, d4⟩, fd⟩ := box5L H3.b1; have fd1 := fd 1)
  have H4 : Hid (Two w (w3.setCell ⟨w.heap.size + 1, 1, none⟩ (.slice co1 sn c1)) K N so ro lo co1 ro lo sn sc rn rc n lc c1 rc n lc) := H3.set1
  have F4 : Hid (Fr (w3.setCell ⟨w.heap.size + 1, 1, none⟩ (.slice co1 sn c1)) (w.heap.size + 2) co1 sn c1 S) := f1.low (by omega) _
  clear f1 b1 H3 d0 d1 d2 d3 d4 fd fd1 a0 a1 a2 a3 a4 fa hS2 HH0
  generalize w3.setCell ⟨w.heap.size + 1, 1, none⟩ (.slice co1 sn c1) = W4 at *
  obtain ⟨⟨a0, a1, a2, a3, a4⟩, fa⟩ := box5L H4.out.b0
  have hT4 := hT.below H4.out.bel (Nat.le_refl _)
  go_upto_region 4 with (at_builtin; refine wpList_join rfl (.const (.slice none 0 0)) (.tmp 25) rfl W4.heap.size none ro 0 0 rn rc [] T rfl rfl (Fr.nil _ _) hT4 sT (by omega) (Nat.le_refl _) ?_; intro co2 c2 w5 f2 b2; rw [Nat.zero_add] at f2; rw [List.nil_append] at f2; have H5 := H4.out.below b2 H4.out.two; have f4b := F4.out.below b2 (Nat.le_refl _); obtain ⟨⟨d0, d1, d2, d3, d4⟩, fd⟩ := box5L H5.b1; have fd1 := fd 2)
  have H6 : Two w (w5.setCell ⟨w.heap.size + 1, 2, none⟩ (.slice co2 rn c2)) K N so ro lo co1 co2 lo sn sc rn rc n lc c1 c2 n lc := H5.set2
  have F6 : Fr (w5.setCell ⟨w.heap.size + 1, 2, none⟩ (.slice co2 rn c2)) (w.heap.size + 2) co1 sn c1 S := f4b.low (by omega) _
  have F6' : Fr (w5.setCell ⟨w.heap.size + 1, 2, none⟩ (.slice co2 rn c2)) (w.heap.size + 2) co2 rn c2 T := (f2.mono H4.out.two).low (by omega) _
  clear f2 b2 f4b H5 d0 d1 d2 d3 d4 fd fd1 a0 a1 a2 a3 a4 fa hT4 H4 F4
  generalize w5.setCell ⟨w.heap.size + 1, 2, none⟩ (.slice co2 rn c2) = W6 at *
  obtain ⟨⟨d0, d1, d2, d3, d4⟩, fd⟩ := box5L H6.b1
  have fd4 := fd 4
  have H7 := H6.set4 (oo' := none) (on' := 0) (oc' := 0)
  have F7 := F6.low (p := w.heap.size + 1) (o := 4) (by omega) (.slice none 0 0)
  have F7' := F6'.low (p := w.heap.size + 1) (o := 4) (by omega) (.slice none 0 0)
  have L7 := Lg.nil (W6.setCell ⟨w.heap.size + 1, 4, none⟩ (.slice none 0 0)) (w.heap.size + 2) (row Z)
  clear H6 F6 F6'
  go_wp2
  clear d0 d1 d2 d3 d4 fd fd4
  generalize W6.setCell ⟨w.heap.size + 1, 4, none⟩ (.slice none 0 0) = W7 at *
  go_loopw [6] (fun i V => ∃ k : Nat, k ≤ n ∧ i = .int .i64 (k : Nat) ∧ ∃ oo oc gs, Two w V K N so ro lo co1 co2 oo sn sc rn rc n lc c1 c2 k oc ∧ Fr V (w.heap.size + 2) co1 sn c1 S ∧ Fr V (w.heap.size + 2) co2 rn c2 T ∧ Lg V (w.heap.size + 2) oo k oc (row Z) gs) (fun i _ => n - (intOf i).toNat)
  case atStart => exact ⟨0, Nat.zero_le _, rfl, none, 0, [], H7, F7, F7', L7⟩
  case round =>
    obtain ⟨k, hk, rfl, oo, oc, gs, HT, FS, FT, LL⟩ := hrel
    clear H7 F7 F7' L7
    obtain ⟨⟨a0, a1, a2, a3, a4⟩, fa⟩ := box5L HT.b0
    obtain ⟨⟨d0, d1, d2, d3, d4⟩, fd⟩ := box5L HT.b1
    have HHT := (show Hid _ from HT)
    have HFS := (show Hid _ from (⟨FS, FT⟩ : _ ∧ _))
    have HLL := (show Hid _ from LL)
    have rZ := hZ.room
    by_cases hlt : k < n
    · obtain ⟨b, off, rfl, hbw, hcs⟩ := hZ.cells (by omega)
      obtain ⟨A, L, C, cA0, rA0, sA0⟩ := hcs k hlt
      have cA : wr.cell? ⟨b, off + k, none⟩ = some (.slice A L C) := (World.cell?_of_block (a := ⟨b, off + k, none⟩) (HT.bel.block b hbw)).trans cA0
      have rA := rA0.below HT.bel (Nat.le_refl _)
      have k0 : (0 : Int) ≤ (k : Int) := by omega
      have k1 : (k : Int) < (n : Int) := by omega
      have HS : wr.drew.cell? ⟨w.heap.size + 1, 4, none⟩ = some (.slice oo k oc) ∧ wr.drew.cell? ⟨w.heap.size, 4, none⟩ = some (.slice (some ⟨b, off, none⟩) n lc) ∧ wr.drew.cell? ⟨b, off + k, none⟩ = some (.slice A L C) := ⟨d4, a4, cA⟩
      have HBW : Hid (b < w.heap.size) := hbw
      clear HT FS FT LL hcs cA0 rA0 a0 a1 a2 a3 fa d0 d1 d2 d3 cA
      go_upto_region 8 with fail
      clear a4 d4
      refine wp_region_R (fun V => V.cell? ⟨w.heap.size + 1, 4, none⟩ = some (.slice oo k oc) ∧ V.cell? ⟨w.heap.size, 4, none⟩ = some (.slice (some ⟨b, off, none⟩) n lc) ∧ V.cell? ⟨b, off + k, none⟩ = some (.slice A L C)) (fun i => i != 11) (by kernel_rfl) ?_
      refine wpAnyR_take (i := 0) (v := .pointer (some ⟨w.heap.size + 1, 4, none⟩)) rfl (by kernel_rfl) (by kernel_rfl) (by kernel_rfl) (by kernel_rfl) (fun _ _ _ h => h) (Or.inl ⟨by rfl, fun V hV => ?_⟩) ?_ ?_
      · obtain ⟨g0, g1, g2⟩ := hV
        go_simp
      · exact HS
      conv => arg 9; simp [Act.put]
      refine wpAnyR_take (i := 1) (v := .slice oo k oc) rfl (by kernel_rfl) (by kernel_rfl) (by kernel_rfl) (by kernel_rfl) (fun _ _ _ h => h) (Or.inl ⟨by rfl, fun V hV => ?_⟩) ?_ ?_
      · obtain ⟨g0, g1, g2⟩ := hV
        go_simp
      · exact HS
      conv => arg 9; simp [Act.put]
      refine wpAnyR_take (i := 2) (v := .pointer (some ⟨w.heap.size, 4, none⟩)) rfl (by kernel_rfl) (by kernel_rfl) (by kernel_rfl) (by kernel_rfl) (fun _ _ _ h => h) (Or.inl ⟨by rfl, fun V hV => ?_⟩) ?_ ?_
      · obtain ⟨g0, g1, g2⟩ := hV
        go_simp
      · exact HS
      conv => arg 9; simp [Act.put]
      refine wpAnyR_take (i := 3) (v := .slice (some ⟨b, off, none⟩) n lc) rfl (by kernel_rfl) (by kernel_rfl) (by kernel_rfl) (by kernel_rfl) (fun _ _ _ h => h) (Or.inl ⟨by rfl, fun V hV => ?_⟩) ?_ ?_
      · obtain ⟨g0, g1, g2⟩ := hV
        go_simp
      · exact HS
      conv => arg 9; simp [Act.put]
      refine wpAnyR_take (i := 4) (v := .int .i64 (k : Int)) rfl (by kernel_rfl) (by kernel_rfl) (by kernel_rfl) (by kernel_rfl) (fun _ _ _ h => h) (Or.inl ⟨by rfl, fun V hV => ?_⟩) ?_ ?_
      · obtain ⟨g0, g1, g2⟩ := hV
        go_simp
      · exact HS
      conv => arg 9; simp [Act.put]
      refine wpAnyR_take (i := 5) (v := .pointer (some ⟨b, off + k, none⟩)) rfl (by kernel_rfl) (by kernel_rfl) (by kernel_rfl) (by kernel_rfl) (fun _ _ _ h => h) (Or.inl ⟨by rfl, fun V hV => ?_⟩) ?_ ?_
      · obtain ⟨g0, g1, g2⟩ := hV
        go_simp
      · exact HS
      conv => arg 9; simp [Act.put]
      refine wpAnyR_take (i := 6) (v := .slice A L C) rfl (by kernel_rfl) (by kernel_rfl) (by kernel_rfl) (by kernel_rfl) (fun _ _ _ h => h) (Or.inl ⟨by rfl, fun V hV => ?_⟩) ?_ ?_
      · obtain ⟨g0, g1, g2⟩ := hV
        go_simp
      · exact HS
      conv => arg 9; simp [Act.put]
      refine wpAnyR_one (i := 7) (by kernel_rfl) rfl (fun K hK => ?_)
      refine step_copyL rfl (.const (.slice none 0 0)) (.tmp 42) rfl A L C (row Z k) rfl (by simp [Act.eval]) rA.drew ?_
      intro ao7 c7 w7 f7 b7
      have HS7 : w7.cell? ⟨w.heap.size + 1, 4, none⟩ = some (.slice oo k oc) ∧ w7.cell? ⟨w.heap.size, 4, none⟩ = some (.slice (some ⟨b, off, none⟩) n lc) ∧ w7.cell? ⟨b, off + k, none⟩ = some (.slice A L C) := ⟨(grownL b7).cell HS.1 (by simp), (grownL b7).cell HS.2.1 (by simp), (grownL b7).cell HS.2.2 (by simp)⟩
      refine hK _ _ ⟨fun _ => HS7, ?_⟩
      clear hK
      conv => arg 9; simp [Act.put]
      have DR : Below wr.heap.size wr wr.drew := (Below.refl _ wr).drew
      have L7 := (HLL.out.below DR).below b7
      have b8 := box_belowL w7 (.cells #[.slice ao7 L c7] 28)
      have L8 := L7.below b8
      have n8 := allocNewL w7 (.cells #[.slice ao7 L c7] 28)
      have c8 : (w7.alloc (.cells #[.slice ao7 L c7] 28)).cell? ⟨w7.heap.size, 0, none⟩ = some (.slice ao7 L c7) := (cell_of_row _ _ 0 _ 28 (0, 0) n8).trans rfl
      have HS8 : (w7.alloc (.cells #[.slice ao7 L c7] 28)).cell? ⟨w.heap.size + 1, 4, none⟩ = some (.slice oo k oc) ∧ (w7.alloc (.cells #[.slice ao7 L c7] 28)).cell? ⟨w.heap.size, 4, none⟩ = some (.slice (some ⟨b, off, none⟩) n lc) ∧ (w7.alloc (.cells #[.slice ao7 L c7] 28)).cell? ⟨b, off + k, none⟩ = some (.slice A L C) := ⟨(grownL b8).cell HS7.1 (by simp), (grownL b8).cell HS7.2.1 (by simp), (grownL b8).cell HS7.2.2 (by simp)⟩
      have T8 := ((HHT.out.below DR HHT.out.two).below b7 HHT.out.two).below b8 (Nat.le_trans HHT.out.two b7.size)
      have S8 := ((HFS.out.1.below DR (Nat.le_refl _)).below b7 (Nat.le_refl _)).below b8 (Nat.le_refl _)
      have S8' := ((HFS.out.2.below DR (Nat.le_refl _)).below b7 (Nat.le_refl _)).below b8 (Nat.le_refl _)
      have HF7 := (show Hid _ from f7)
      have HB7 := (show Hid _ from b7)
      have HT8 := (show Hid _ from T8)
      clear T8
      refine wpAnyR_one (i := 8) (by kernel_rfl) rfl (fun K hK => ?_)
      go_simp
      refine hK _ _ ⟨fun _ => HS8, ?_⟩
      clear hK
      conv => arg 9; simp [Act.put]
      refine wpAnyR_one (i := 9) (by kernel_rfl) rfl (fun K hK => ?_)
      refine step_pushB Try.underlying29 (by kernel_rfl) rfl (.tmp 37) (.tmp 44) rfl (w.heap.size + 2) (by have := HHT.out.two; have := HB7.out.size; have h9 : wr.drew.heap.size = wr.heap.size := rfl; simp only [World.size_alloc]; omega) (.slice oo k oc) k gs (by simp [Act.eval]) L8.own w7.heap.size (by simp [Act.eval]) (.slice ao7 L c7) c8 rfl (by omega) ?_
      intro v9 W9 r9 g9 a9
      obtain ⟨oo9, oc9, rfl⟩ := own_len r9
      obtain ⟨L9, B9⟩ := Lg.push (HLL.out.below DR) HHT.out.two HB7.out HF7.out b8 r9 g9
      have T9 := HT8.out.below B9 (Nat.le_refl _)
      have G9 := S8.past L8.own g9
      have G9' := S8'.past L8.own g9
      obtain ⟨⟨_, _, _, _, d4⟩, fd⟩ := box5L T9.b1
      obtain ⟨⟨_, _, _, _, a4⟩, _⟩ := box5L T9.b0
      have HS9 : W9.cell? ⟨w.heap.size + 1, 4, none⟩ = some (.slice oo k oc) ∧ W9.cell? ⟨w.heap.size, 4, none⟩ = some (.slice (some ⟨b, off, none⟩) n lc) ∧ W9.cell? ⟨b, off + k, none⟩ = some (.slice A L C) := ⟨d4, a4, (World.cell?_of_block (a := ⟨b, off + k, none⟩) (B9.block b (by have := HBW.out; omega))).trans HS8.2.2⟩
      have fd4 := fd 4
      refine hK _ _ ⟨fun _ => HS9, ?_⟩
      clear hK
      conv => arg 9; simp [Act.put]
      refine wpAnyR_one (i := 10) (by kernel_rfl) rfl (fun K hK => ?_)
      go_simp
      refine hK _ _ ⟨fun _ => HS9, ?_⟩
      clear hK
      conv => arg 9; simp [Act.put]
      refine wpAnyR_one (i := 11) (by kernel_rfl) rfl (fun K hK => ?_)
      go_simp
      refine hK _ _ ⟨fun h => absurd h (by decide), ?_⟩
      clear hK
      refine wpAnyR_done (by kernel_rfl) ?_ _
      have T10 := T9.set4 (oo' := oo9) (on' := k + 1) (oc' := oc9)
      have G10 := G9.low (p := w.heap.size + 1) (o := 4) (by omega) (.slice oo9 (k + 1) oc9)
      have G10' := G9'.low (p := w.heap.size + 1) (o := 4) (by omega) (.slice oo9 (k + 1) oc9)
      have L10 := L9.low (p := w.heap.size + 1) (o := 4) (by omega) (.slice oo9 (k + 1) oc9)
      clear HS HS7 HS8 HS9 c8 n8 b8 L7 L8 f7 b7 S8 S8' a9 r9 g9 L9 B9 T9 G9 G9' d4 a4 fd fd4 DR rA HF7 HB7 HT8 HHT HFS HLL
      generalize W9.setCell ⟨w.heap.size + 1, 4, none⟩ (.slice oo9 (k + 1) oc9) = W10 at *
      go_wp2
      go_roundw
      case rel => exact ⟨k + 1, by omega, by go_num, oo9, oc9, _, T10, G10, G10', L10⟩
      case measure => simp [intOf]; omega
    · obtain rfl : n = k := by omega
      have k1 : ¬ ((n : Int) < (n : Int)) := by omega
      have zl := hZ.len
      have hS0 := hS.below HT.bel (Nat.le_refl _)
      have ZZ := LL.rs zl rZ
      have SS1 := FS.sl
      have SS2 := FT.sl
      by_cases k4 : K = 4
      · subst k4
        go_wp2_with (first
          | (go_at_call 14; (with_reducible refine (at_any _ _ _ _ N _ FS.rd N1 N2).mono ?_); rintro e w3 ⟨a3, n3, c3, rfl, F3, B3⟩; have T3 := HT.below B3 HT.two; have S3 := hS.below T3.bel (Nat.le_refl _); have TT3 := hT.below T3.bel (Nat.le_refl _); have Z3 := hZ.below T3.bel (Nat.le_refl _); obtain ⟨⟨e0, e1, e2, e3, e4⟩, fe⟩ := box5L T3.b0)
          | (go_at_call 21; (with_reducible refine (refAt_any _ _ _ _ N _ S3 N1 N2).mono ?_); rintro e w4 ⟨a4, n4, c4, rfl, F4, B4⟩; have BW4 := T3.bel.trans (B4.mono (Nat.le_trans (by omega) T3.two)); have G3 := (F3.below B4 (Nat.le_refl _)).mono (Nat.le_trans (by omega : w.heap.size ≤ w.heap.size + 2) HT.two); have G4 := F4.mono (Nat.le_trans (by omega : w.heap.size ≤ w.heap.size + 2) T3.two); have R3 := (G3.rd.below (box_belowL w4 (.cells #[.slice a3 n3 c3] 28)) (Nat.le_refl _)).below (box_belowL (w4.alloc (.cells #[.slice a3 n3 c3] 28)) (.cells #[.slice a4 n4 c4] 28)) (Nat.le_refl _); have R4 := (G4.rd.below (box_belowL w4 (.cells #[.slice a3 n3 c3] 28)) (Nat.le_refl _)).below (box_belowL (w4.alloc (.cells #[.slice a3 n3 c3] 28)) (.cells #[.slice a4 n4 c4] 28)) (Nat.le_refl _))
          | (go_at_call 11; (with_reducible refine (eqL R3 R4).mono ?_); rintro e w5 ⟨rfl, q, rfl⟩))
        refine bodyPost_ret (v := .tuple #[.slice (some ⟨w4.heap.size, 0, none⟩) 1 1, .slice (some ⟨w4.heap.size + 1, 0, none⟩) 1 1, .bool true]) (by simp [results, Try.results7]; (try go_simp)) rfl ?_
        exact ⟨_, _, _, _, _, _, _, _, rfl, ans_one BW4 G3 G4 q⟩
      by_cases k6 : K = 6
      · subst k6
        go_wp2_with (first
          | (go_at_call 16; (with_reducible refine (agree_any _ _ _ _ _ _ _ _ _ FS.rd FT.rd SS1 SS2).mono ?_); rintro e w3 ⟨a3, n3, c3, rfl, F3, B3⟩; have T3 := HT.below B3 HT.two; have S3 := hS.below T3.bel (Nat.le_refl _); have TT3 := hT.below T3.bel (Nat.le_refl _); have Z3 := hZ.below T3.bel (Nat.le_refl _); obtain ⟨⟨e0, e1, e2, e3, e4⟩, fe⟩ := box5L T3.b0)
          | (go_at_call 22; (with_reducible refine (refAgree_any _ _ _ _ _ _ _ _ _ S3 TT3).mono ?_); rintro e w4 ⟨a4, n4, c4, rfl, F4, B4⟩; have BW4 := T3.bel.trans (B4.mono (Nat.le_trans (by omega) T3.two)); have G3 := (F3.below B4 (Nat.le_refl _)).mono (Nat.le_trans (by omega : w.heap.size ≤ w.heap.size + 2) HT.two); have G4 := F4.mono (Nat.le_trans (by omega : w.heap.size ≤ w.heap.size + 2) T3.two); have R3 := (G3.rd.below (box_belowL w4 (.cells #[.slice a3 n3 c3] 28)) (Nat.le_refl _)).below (box_belowL (w4.alloc (.cells #[.slice a3 n3 c3] 28)) (.cells #[.slice a4 n4 c4] 28)) (Nat.le_refl _); have R4 := (G4.rd.below (box_belowL w4 (.cells #[.slice a3 n3 c3] 28)) (Nat.le_refl _)).below (box_belowL (w4.alloc (.cells #[.slice a3 n3 c3] 28)) (.cells #[.slice a4 n4 c4] 28)) (Nat.le_refl _))
          | (go_at_call 11; (with_reducible refine (eqL R3 R4).mono ?_); rintro e w5 ⟨rfl, q, rfl⟩))
        refine bodyPost_ret (v := .tuple #[.slice (some ⟨w4.heap.size, 0, none⟩) 1 1, .slice (some ⟨w4.heap.size + 1, 0, none⟩) 1 1, .bool true]) (by simp [results, Try.results7]; (try go_simp)) rfl ?_
        exact ⟨_, _, _, _, _, _, _, _, rfl, ans_one BW4 G3 G4 q⟩
      by_cases k7 : K = 7
      · subst k7
        go_wp2_with (first
          | (go_at_call 17; (with_reducible refine (cover_any _ _ _ _ _ ZZ).mono ?_); rintro e w3 ⟨a3, n3, c3, rfl, F3, B3⟩; have T3 := HT.below B3 HT.two; have S3 := hS.below T3.bel (Nat.le_refl _); have TT3 := hT.below T3.bel (Nat.le_refl _); have Z3 := hZ.below T3.bel (Nat.le_refl _); obtain ⟨⟨e0, e1, e2, e3, e4⟩, fe⟩ := box5L T3.b0)
          | (go_at_call 23; (with_reducible refine (refCover_any _ _ _ _ _ Z3).mono ?_); rintro e w4 ⟨a4, n4, c4, rfl, F4, B4⟩; have BW4 := T3.bel.trans (B4.mono (Nat.le_trans (by omega) T3.two)); have G3 := (F3.below B4 (Nat.le_refl _)).mono (Nat.le_trans (by omega : w.heap.size ≤ w.heap.size + 2) HT.two); have G4 := F4.mono (Nat.le_trans (by omega : w.heap.size ≤ w.heap.size + 2) T3.two); have R3 := (G3.rd.below (box_belowL w4 (.cells #[.slice a3 n3 c3] 28)) (Nat.le_refl _)).below (box_belowL (w4.alloc (.cells #[.slice a3 n3 c3] 28)) (.cells #[.slice a4 n4 c4] 28)) (Nat.le_refl _); have R4 := (G4.rd.below (box_belowL w4 (.cells #[.slice a3 n3 c3] 28)) (Nat.le_refl _)).below (box_belowL (w4.alloc (.cells #[.slice a3 n3 c3] 28)) (.cells #[.slice a4 n4 c4] 28)) (Nat.le_refl _))
          | (go_at_call 11; (with_reducible refine (eqL R3 R4).mono ?_); rintro e w5 ⟨rfl, q, rfl⟩))
        refine bodyPost_ret (v := .tuple #[.slice (some ⟨w4.heap.size, 0, none⟩) 1 1, .slice (some ⟨w4.heap.size + 1, 0, none⟩) 1 1, .bool true]) (by simp [results, Try.results7]; (try go_simp)) rfl ?_
        exact ⟨_, _, _, _, _, _, _, _, rfl, ans_one BW4 G3 G4 q⟩
      by_cases k5 : K = 5
      · subst k5
        go_wp2_with (first
          | (go_at_call 15; (with_reducible refine (split_any _ _ _ _ N _ FS.rd SS1 N1 N2).mono ?_); rintro e w3 ⟨a3, c3, a3', c3', rfl, F3, F3', ap3, B3⟩; have T3 := HT.below B3 HT.two; have S3 := hS.below T3.bel (Nat.le_refl _); obtain ⟨⟨e0, e1, e2, e3, e4⟩, fe⟩ := box5L T3.b0)
          | (go_at_call 24; (with_reducible refine (refSplit_any _ _ _ _ N _ S3 sS N1 N2).mono ?_); rintro e w4 ⟨a4, c4, a4', c4', rfl, F4, F4', ap4, B4⟩; have BW4 := T3.bel.trans (B4.mono (Nat.le_trans (by omega) T3.two)); have G3 := (F3.below B4 (Nat.le_refl _)).mono (Nat.le_trans (by omega : w.heap.size ≤ w.heap.size + 2) HT.two); have G3' := (F3'.below B4 (Nat.le_refl _)).mono (Nat.le_trans (by omega : w.heap.size ≤ w.heap.size + 2) HT.two); have G4 := F4.mono (Nat.le_trans (by omega : w.heap.size ≤ w.heap.size + 2) T3.two); have G4' := F4'.mono (Nat.le_trans (by omega : w.heap.size ≤ w.heap.size + 2) T3.two); have R3 := ((G3.rd.below (box_belowL w4 (.cells #[.slice a3 (sn - rankF sn N) c3, .slice a3' (rankF sn N) c3'] 28)) (Nat.le_refl _)).below (box_belowL (w4.alloc (.cells #[.slice a3 (sn - rankF sn N) c3, .slice a3' (rankF sn N) c3'] 28)) (.cells #[.slice a4 (sn - rankF sn N) c4, .slice a4' (rankF sn N) c4'] 28)) (Nat.le_refl _)); have R3' := ((G3'.rd.below (box_belowL w4 (.cells #[.slice a3 (sn - rankF sn N) c3, .slice a3' (rankF sn N) c3'] 28)) (Nat.le_refl _)).below (box_belowL (w4.alloc (.cells #[.slice a3 (sn - rankF sn N) c3, .slice a3' (rankF sn N) c3'] 28)) (.cells #[.slice a4 (sn - rankF sn N) c4, .slice a4' (rankF sn N) c4'] 28)) (Nat.le_refl _)); have R4 := ((G4.rd.below (box_belowL w4 (.cells #[.slice a3 (sn - rankF sn N) c3, .slice a3' (rankF sn N) c3'] 28)) (Nat.le_refl _)).below (box_belowL (w4.alloc (.cells #[.slice a3 (sn - rankF sn N) c3, .slice a3' (rankF sn N) c3'] 28)) (.cells #[.slice a4 (sn - rankF sn N) c4, .slice a4' (rankF sn N) c4'] 28)) (Nat.le_refl _)); have R4' := ((G4'.rd.below (box_belowL w4 (.cells #[.slice a3 (sn - rankF sn N) c3, .slice a3' (rankF sn N) c3'] 28)) (Nat.le_refl _)).below (box_belowL (w4.alloc (.cells #[.slice a3 (sn - rankF sn N) c3, .slice a3' (rankF sn N) c3'] 28)) (.cells #[.slice a4 (sn - rankF sn N) c4, .slice a4' (rankF sn N) c4'] 28)) (Nat.le_refl _)))
          | (go_at_call 11; (with_reducible refine (eqL R3 R4).mono ?_); rintro e w5 ⟨rfl, q, rfl⟩)
          | (go_at_call 11; (with_reducible refine (eqL (R3'.drewN q) (R4'.drewN q)).mono ?_); rintro e w6 ⟨rfl, q2, rfl⟩))
        refine bodyPost_ret (v := .tuple #[.slice (some ⟨w4.heap.size, 0, none⟩) 2 2, .slice (some ⟨w4.heap.size + 1, 0, none⟩) 2 2, .bool true]) (by simp [results, Try.results7]; (try go_simp)) rfl ?_
        exact ⟨_, _, _, _, _, _, _, _, rfl, ans_two BW4 G3 G3' ap3 G4 G4' ap4 (q + q2)⟩
      have n4 : (K == 4) = false := by simpa using k4
      have n5 : (K == 5) = false := by simpa using k5
      have n6 : (K == 6) = false := by simpa using k6
      have n7 : (K == 7) = false := by simpa using k7
      clear k4 k5 k6 k7
      have BW4 := HT.bel
      have NN := Fr.nil wr w.heap.size
      have R3 := Rd.nil ((wr.alloc (.cells #[.slice none 0 0] 28)).alloc (.cells #[.slice none 0 0] 28))
      go_wp2_with (go_at_call 11; (with_reducible refine (eqL R3 R3).mono ?_); rintro e w5 ⟨rfl, q, rfl⟩)
      refine bodyPost_ret (v := .tuple #[.slice (some ⟨wr.heap.size, 0, none⟩) 1 1, .slice (some ⟨wr.heap.size + 1, 0, none⟩) 1 1, .bool true]) (by simp [results, Try.results7]; (try go_simp)) rfl ?_
      exact ⟨_, _, _, _, _, _, _, _, rfl, ans_one BW4 NN NN q⟩
end Go.Proofs.Ytdeglhifemmknaa
