
/- The document's answers for package seek: an answer that grows in its box; numbers. -/

import Derived.Test.YtmepcenbaohcoaaGreatRSf

import Derived.Test.YtmepcenbaohcoaaGreatYJ

import Derived.Test.YtmepcenbaohcoaaGreatYK

namespace Go.Proofs.YtmepcenbaohcoaaGreat

open Go.RowKit

set_option linter.unusedVariables false

/-- An answer under way: its box q, and the row that grows; all else is as it was at C. -/
structure Gw (C V : World) (q : Nat) (xo : Option Addr) (sn xc : Nat) (o : Option Addr) (k c : Nat) (zs : List Int) : Prop where
  a : V.heap[q]? = some (.cells #[.slice xo sn xc, .slice o k c] 30 (0, 0))
  l : Ft 2 V C.heap.size o k c zs
  g : C.grownBy V (some q)
  hq : q < C.heap.size
theorem Gw.below {C V V' : World} {q : Nat} {xo : Option Addr} {sn xc : Nat} {o : Option Addr} {k c : Nat} {zs : List Int} (h : Gw C V q xo sn xc o k c zs) (b : Below V.heap.size V V') : Gw C V' q xo sn xc o k c zs := by
  have hs := h.g.size
  exact ⟨(b.block q (by have := h.hq; omega)).trans h.a, h.l.below b (Nat.le_refl _), ⟨b.os.trans h.g.os, b.tape.trans h.g.tape, b.output.trans h.g.output, Nat.le_trans hs b.size, fun j hj hn => (b.block j (by omega)).trans (h.g.block j hj hn)⟩, h.hq⟩
theorem grown_set (W : World) (b i : Nat) (v : Value) : W.grownBy (W.setCell ⟨b, i, none⟩ v) (some b) :=
  ⟨rfl, rfl, rfl, by simp [World.setCell], fun k _ hn => Below.heap_setCell W ⟨b, i, none⟩ v k (fun e => hn (by rw [show k = b from e]))⟩
theorem gw_step {C V V1 : World} {q : Nat} {xo : Option Addr} {sn xc : Nat} {o : Option Addr} {k c : Nat} {zs : List Int} (h : Gw C V q xo sn xc o k c zs) (b : Below C.heap.size V V1) {co : Option Addr} {k' c' : Nat} {ys : List Int} (f : Ft 2 V1 C.heap.size co k' c' ys) :
    Gw C (V1.setCell ⟨q, 1, none⟩ (.slice co k' c')) q xo sn xc co k' c' ys := by
  have hs := h.g.size
  have hq := h.hq
  have e1 : V1.heap[q]? = some (.cells #[.slice xo sn xc, .slice o k c] 30 (0, 0)) := (b.block q hq).trans h.a
  have gs : V1.grownBy (V1.setCell ⟨q, 1, none⟩ (.slice co k' c')) (some q) := grown_set V1 q 1 _
  refine ⟨?_, f.keep1 gs (fun j off e => ?_), ⟨gs.os.trans (b.os.trans h.g.os), gs.tape.trans (b.tape.trans h.g.tape), gs.output.trans (b.output.trans h.g.output), Nat.le_trans hs (Nat.le_trans b.size gs.size), fun j hj hn => ?_⟩, hq⟩
  · rw [heap_setCell_same V1 q 1 _ _ _ e1]; rfl
  · have := (f.at j off e).1
    intro e'
    simp only [Option.some.injEq] at e'
    omega
  · have h1 := h.g.block j hj hn
    have h2 := b.block j hj
    have h3 := gs.block j (by have := b.size; omega) hn
    exact h3.trans (h2.trans h1)
theorem newL (V : World) (z : Int) (h0 : -9223372036854775808 ≤ z) (h1 : z ≤ 9223372036854775807) : Ft 2 (V.alloc (.cells #[.int .i64 z] 2)) V.heap.size (some ⟨V.heap.size, 0, none⟩) 1 1 [z] := ft_new 2 V [z] (by simp) (num1 h0 h1)
theorem take_more {l : List Int} {k : Nat} (h : k < l.length) : l.take k ++ [nth l k] = l.take (k + 1) := by
  rw [List.take_add_one]
  simp [nth, h]

theorem ftx_box {e : TypeId} {w : World} {B : Nat} {ao : Option Addr} {n cap : Nat} {zs : List Int} (h : Ft e w B ao n cap zs) {j off r : Nat} (ea : ao = some ⟨j, off, none⟩) {cs : Array Value} (hr : w.heap[r]? = some (.cells cs 30 (0, 0))) (e' : some j = some r) (he : e ≠ 30 := by decide) : False := by
  simp only [Option.some.injEq] at e'
  subst e'
  obtain ⟨g, c, cur, h1, h2, h3, _⟩ := (h.own.2.resolve_left (fun x => by have := x.1; rw [ea] at this; cases this))
  rw [ea] at h1
  have : j = g := by simp at h1; exact h1.1.1
  subst this
  rw [hr] at h3
  simp only [Option.some.injEq, Obj.cells.injEq] at h3
  exact he h3.2.1.symm
theorem ft_grows {e : TypeId} {W W' : World} {B : Nat} {o : Option Addr} {k c : Nat} {zs : List Int} (h : Ft e W B o k c zs) (g : W.grownBy W' (Value.slice o k c).ownBlock) (hB : B ≤ W.heap.size) : Below B W W' :=
  ⟨g.os, g.tape, g.output, g.size, fun j hj => g.block j (Nat.lt_of_lt_of_le hj hB) (fun e => by have := (h.own.lt j e.symm).1; omega)⟩
/-- What is known at w0, ahead of the box, is known all along. -/
theorem Gw.far {w0 C V : World} {q : Nat} {xo : Option Addr} {sn xc : Nat} {o : Option Addr} {k c : Nat} {zs : List Int} (h : Gw C V q xo sn xc o k c zs) (b : Below w0.heap.size w0 C) (hq : w0.heap.size ≤ q) : Below w0.heap.size w0 V :=
  b.grown h.g b.size (fun k e => by cases e; exact hq)
theorem Gw.sh {C V : World} {q : Nat} {xo : Option Addr} {sn xc : Nat} {o : Option Addr} {k c : Nat} {zs : List Int} (h : Gw C V q xo sn xc o k c zs) {B : Nat} {S : List Int} (f : Ft 3 C B xo sn xc S) {cs : Array Value} (hc : C.heap[q]? = some (.cells cs 30 (0, 0))) : Ft 3 V B xo sn xc S :=
  f.keep1 h.g (fun j off e e' => ftx_box f e hc e')
theorem ends2 {w V : World} {B1 B2 r : Nat} {xo o : Option Addr} {sn xc k c : Nat} {S A : List Int} {cs : Array Value} (u v : Value) (f1 : Ft 3 V B1 xo sn xc S) (f2 : Ft 2 V B2 o k c A) (h1 : w.heap.size ≤ B1) (h2 : w.heap.size ≤ B2) (hr : V.heap[r]? = some (.cells cs 30 (0, 0))) (hw : w.heap.size ≤ r) (b : Below w.heap.size w V) :
    Ft 3 ((V.setCell ⟨r, 0, none⟩ u).setCell ⟨r, 1, none⟩ v) w.heap.size xo sn xc S ∧ Ft 2 ((V.setCell ⟨r, 0, none⟩ u).setCell ⟨r, 1, none⟩ v) w.heap.size o k c A ∧ Below w.heap.size w ((V.setCell ⟨r, 0, none⟩ u).setCell ⟨r, 1, none⟩ v) :=
  ⟨(f1.keep1 (set2 _ _ _ _ _ _) (fun j off e e' => ftx_box f1 e hr e')).mono h1, (f2.keep1 (set2 _ _ _ _ _ _) (fun j off e e' => ftx_box f2 e hr e')).mono h2, below_set2 _ _ _ _ b hw (Nat.le_refl _)⟩
theorem refOne7 (b : Bool) (w : World) : Calls Tryz.prog 26 #[.bool b] w fun e w' => e = .returned (.int .i64 (if b = true then 1 else 0)) ∧ w' = w := by
  cases b
  · go_enter Tryz.func26, Tryz.ntmps26
    go_wp2
    go_ret
    exact ⟨rfl, rfl⟩
  · go_enter Tryz.func26, Tryz.ntmps26
    go_wp2
    go_ret
    exact ⟨rfl, rfl⟩

set_option maxHeartbeats 4000000 in
set_option maxRecDepth 20000 in
theorem refNumbers7 (lo : Option Addr) (n lc : Nat) (zs : List Int) (w : World) (h : Rd w lo n zs) (hn : n ≤ 5000) :
    Calls Tryz.prog 29 #[.slice lo n lc] w fun e w' => ∃ o1 c1 o2 c2, e = .returned (.agg #[.slice o1 1 c1, .slice o2 n c2]) ∧ Ft 3 w' w.heap.size o1 1 c1 [(n : Int)] ∧ Ft 2 w' w.heap.size o2 n c2 zs ∧ Below w.heap.size w w' := by
  have k1 := box_below w (.cells #[.slice none 0 0, .slice none 0 0] 30)
  have k2 := k1.alloc (by simp) (.cells #[.int .i64 (n : Int)] 3)
  have r1 := allocNew w (.cells #[.slice none 0 0, .slice none 0 0] 30)
  have f1 := ft_new 3 (w.alloc (.cells #[.slice none 0 0, .slice none 0 0] 30)) [(n : Int)] (by simp) (num1 (by omega) (by omega))
  have kx := box_below (w.alloc (.cells #[.slice none 0 0, .slice none 0 0] 30)) (.cells #[.int .i64 (n : Int)] 3)
  have r2 := (kx.block w.heap.size (by simp)).trans r1
  obtain ⟨W2, hW2⟩ : ∃ W, W = (w.alloc (.cells #[.slice none 0 0, .slice none 0 0] 30)).alloc (.cells #[.int .i64 (n : Int)] 3) := ⟨_, rfl⟩
  have s2 : W2.heap.size = w.heap.size + 2 := by rw [hW2]; simp
  have ks := box_below W2 (.cells #[.slice (some ⟨w.heap.size + 1, 0, none⟩) 1 1, .slice none 0 0] 30)
  have f2 : Ft 3 W2 (w.heap.size + 1) (some ⟨w.heap.size + 1, 0, none⟩) 1 1 [(n : Int)] := by
    rw [World.size_alloc] at f1
    rw [hW2]
    exact f1
  have r2' : W2.heap[w.heap.size]? = _ := hW2 ▸ r2
  have k2' : Below w.heap.size w W2 := hW2 ▸ k2
  obtain ⟨C, hC⟩ : ∃ C, C = W2.alloc (.cells #[.slice (some ⟨w.heap.size + 1, 0, none⟩) 1 1, .slice none 0 0] 30) := ⟨_, rfl⟩
  have nq := allocNew W2 (.cells #[.slice (some ⟨w.heap.size + 1, 0, none⟩) 1 1, .slice none 0 0] 30)
  rw [← hC, s2, show w.heap.size + 2 = w.heap.size + 1 + 1 from rfl] at nq
  rw [← hC] at ks
  have fC := f2.below ks (Nat.le_refl _)
  have rC := (ks.block w.heap.size (by omega)).trans r2'
  have bC := k2'.trans (ks.mono k2'.size)
  have sC : C.heap.size = w.heap.size + 3 := by rw [hC]; simp; omega
  have b2 : Below W2.heap.size W2 C := ks
  have h2 := h.below k2' (Nat.le_refl _)
  have HL : Hid (zs.length = n) := h.len
  have gnum := h.num
  have hC' : ((w.alloc (.cells #[.slice none 0 0, .slice none 0 0] 30)).alloc (.cells #[.int .i64 (n : Int)] 3)).alloc (.cells #[.slice (some ⟨w.heap.size + 1, 0, none⟩) 1 1, .slice none 0 0] 30) = C := by rw [hC, hW2]
  have H2 : Hid (W2.heap.size = w.heap.size + 2) := s2
  have H3 : Hid (C.heap.size = w.heap.size + 3) := sC
  have H4 : Hid (((w.alloc (.cells #[.slice none 0 0, .slice none 0 0] 30)).alloc (.cells #[.int .i64 (n : Int)] 3)).alloc (.cells #[.slice (some ⟨w.heap.size + 1, 0, none⟩) 1 1, .slice none 0 0] 30) = C) := hC'
  clear k1 k2 r1 f1 kx r2 hW2 ks f2 r2' hC h s2 sC hC'
  go_enter Tryz.func29, Tryz.ntmps29
  go_wp2
  rw [H4.out]
  have s2 := H2.out
  have sC := H3.out
  clear H4
  have G0 : Gw C C (w.heap.size + 1 + 1) (some ⟨w.heap.size + 1, 0, none⟩) 1 1 none 0 0 (zs.take 0) := ⟨nq, Ft.nil _ _ _, ⟨rfl, rfl, rfl, Nat.le_refl _, fun _ _ _ => rfl⟩, by omega⟩
  go_loopw [4] (fun i V => ∃ (k : Nat) (o : Option Addr) (c : Nat), k ≤ n ∧ i = .int .i64 (k : Nat) ∧ Gw C V (w.heap.size + 1 + 1) (some ⟨w.heap.size + 1, 0, none⟩) 1 1 o k c (zs.take k)) (fun i _ => n - (intOf i).toNat)
  case atStart => exact ⟨0, none, 0, Nat.zero_le _, rfl, G0⟩
  case round =>
    clear G0
    obtain ⟨k, o, c, hk, rfl, GW⟩ := hrel
    have bV := GW.far b2 (by omega)
    have hs := GW.g.size
    obtain ⟨y0, y1, yf, yg⟩ := box2 GW.a
    by_cases hlt : k < n
    · have t1 : decide ((k : Int) < (n : Int)) = true := by simp; omega
      have t2 : (k : Int) < (n : Int) := by omega
      obtain ⟨b, off, rfl, hb2, hcs⟩ := h2.cells (by omega)
      have c1 := (bV.cell (p := ⟨b, off + k, none⟩) hb2).trans (hcs k hlt)
      have hbC : b < C.heap.size := by omega
      have hb : b < wr.heap.size := Nat.lt_of_lt_of_le hbC GW.g.size
      have hqC : w.heap.size + 1 + 1 < C.heap.size := by omega
      clear s2 sC
      have bd := gnum k hlt
      have HT : Hid (zs.take k ++ [nth zs k] = zs.take (k + 1)) := take_more (by rw [HL.out]; exact hlt)
      clear hcs
      generalize nth zs k = v at *
      have F1 := newL wr v bd.1 bd.2
      have kb := box_below wr (.cells #[.int .i64 v] 2)
      have kd : Below wr.heap.size wr (wr.alloc (.cells #[.int .i64 v] 2)).drew := kb.drew
      have GA := GW.below kd
      have HS : wr.drew.cell? ⟨w.heap.size + 1 + 1, 1, none⟩ = some (.slice o k c) ∧ wr.drew.cell? ⟨b, off + k, none⟩ = some (.int .i64 v) := ⟨y1, c1⟩
      have HSA : (wr.alloc (.cells #[.int .i64 v] 2)).drew.cell? ⟨w.heap.size + 1 + 1, 1, none⟩ = some (.slice o k c) ∧ (wr.alloc (.cells #[.int .i64 v] 2)).drew.cell? ⟨b, off + k, none⟩ = some (.int .i64 v) := ⟨(box2 GA.a).2.1, (kd.cell (p := ⟨b, off + k, none⟩) hb).trans c1⟩
      go_wp2
      refine wp_region_R (fun V => V.cell? ⟨w.heap.size + 1 + 1, 1, none⟩ = some (.slice o k c) ∧ V.cell? ⟨b, off + k, none⟩ = some (.int .i64 v)) (fun i => i != 9) (by kernel_rfl) ?_
      refine wpAnyR_take (i := 0) (v := .pointer (some ⟨w.heap.size + 1 + 1, 1, none⟩)) rfl (by kernel_rfl) (by kernel_rfl) (by kernel_rfl) (by kernel_rfl) (fun _ _ _ h => h) (Or.inl ⟨by rfl, fun V hV => ?_⟩) ?_ ?_
      · obtain ⟨g0, g1⟩ := hV
        go_simp
      · exact HS
      conv => arg 9; simp [Act.put]
      refine wpAnyR_take (i := 1) (v := .slice o k c) rfl (by kernel_rfl) (by kernel_rfl) (by kernel_rfl) (by kernel_rfl) (fun _ _ _ h => h) (Or.inl ⟨by rfl, fun V hV => ?_⟩) ?_ ?_
      · obtain ⟨g0, g1⟩ := hV
        go_simp
      · exact HS
      conv => arg 9; simp [Act.put]
      refine wpAnyR_take (i := 2) (v := .slice (some ⟨b, off, none⟩) n lc) rfl (by kernel_rfl) (by kernel_rfl) (by kernel_rfl) (by kernel_rfl) (fun _ _ _ h => h) (Or.inl ⟨by rfl, fun V hV => ?_⟩) ?_ ?_
      · obtain ⟨g0, g1⟩ := hV
        go_simp
      · exact HS
      conv => arg 9; simp [Act.put]
      refine wpAnyR_take (i := 3) (v := .int .i64 (k : Int)) rfl (by kernel_rfl) (by kernel_rfl) (by kernel_rfl) (by kernel_rfl) (fun _ _ _ h => h) (Or.inl ⟨by rfl, fun V hV => ?_⟩) ?_ ?_
      · obtain ⟨g0, g1⟩ := hV
        go_simp
      · exact HS
      conv => arg 9; simp [Act.put]
      refine wpAnyR_take (i := 4) (v := .pointer (some ⟨b, off + k, none⟩)) rfl (by kernel_rfl) (by kernel_rfl) (by kernel_rfl) (by kernel_rfl) (fun _ _ _ h => h) (Or.inl ⟨by rfl, fun V hV => ?_⟩) ?_ ?_
      · obtain ⟨g0, g1⟩ := hV
        go_simp
      · exact HS
      conv => arg 9; simp [Act.put]
      refine wpAnyR_take (i := 5) (v := .int .i64 v) rfl (by kernel_rfl) (by kernel_rfl) (by kernel_rfl) (by kernel_rfl) (fun _ _ _ h => h) (Or.inl ⟨by rfl, fun V hV => ?_⟩) ?_ ?_
      · obtain ⟨g0, g1⟩ := hV
        go_simp
      · exact HS
      conv => arg 9; simp [Act.put]
      refine wpAnyR_one (i := 6) (by kernel_rfl) rfl (fun K hK => ?_)
      go_simp
      refine hK _ _ ⟨fun _ => HSA, ?_⟩
      clear hK
      conv => arg 9; simp [Act.put]
      refine wpAnyR_one (i := 7) (by kernel_rfl) rfl (fun K hK => ?_)
      refine step_joinW tyL rfl (.tmp 16) (.tmp 21) rfl C.heap.size (k + 1) o (some ⟨wr.heap.size, 0, none⟩) k c 1 1 (zs.take k) [v] rfl (by simp [Act.eval]) (by simp [Act.eval]) GA.l (F1.rd.below (Below.refl _ _).drew (Nat.le_refl _)) F1.sl (by omega) GA.g.size ?_
      intro co cc W9 f9 g9 a9
      have b9 : Below C.heap.size wr W9 := (kd.mono hs).trans (ft_grows GA.l g9 GA.g.size)
      have q9 := (b9.block (w.heap.size + 1 + 1) hqC).trans GW.a
      have HS9 : W9.cell? ⟨w.heap.size + 1 + 1, 1, none⟩ = some (.slice o k c) ∧ W9.cell? ⟨b, off + k, none⟩ = some (.int .i64 v) := ⟨(box2 q9).2.1, ((ft_grows GA.l g9 GA.g.size).cell (p := ⟨b, off + k, none⟩) hbC).trans HSA.2⟩
      have F9 := (box2 q9).2.2.2
      refine hK _ _ ⟨fun _ => HS9, ?_⟩
      clear hK
      conv => arg 9; simp [Act.put]
      refine wpAnyR_one (i := 8) (by kernel_rfl) rfl (fun K hK => ?_)
      go_simp
      refine hK _ _ ⟨fun _ => HS9, ?_⟩
      clear hK
      conv => arg 9; simp [Act.put]
      refine wpAnyR_one (i := 9) (by kernel_rfl) rfl (fun K hK => ?_)
      go_simp
      refine hK _ _ ⟨fun h => absurd h (by decide), ?_⟩
      clear hK
      refine wpAnyR_done (by kernel_rfl) ?_ _
      go_wp2
      go_roundw
      case measure => simp [intOf]; omega
      case rel =>
        refine ⟨k + 1, co, cc, by omega, by go_num, ?_⟩
        rw [← HT.out]
        exact gw_step GW b9 f9
    · obtain rfl : k = n := by omega
      have t1 : decide ((k : Int) < (k : Int)) = false := by simp
      have rV := (GW.g.block w.heap.size (by omega) (by intro e; simp only [Option.some.injEq] at e; omega)).trans rC
      obtain ⟨x0, x1, xf, xg⟩ := box2 rV
      go_wp2
      (try simp only [Exit.inBlock, Exit.then])
      refine bodyPost_ret (v := .agg #[.slice (some ⟨w.heap.size + 1, 0, none⟩) 1 1, .slice o k c]) (by simp [results, Tryz.results29]; go_simp) rfl ?_
      have e := ends2 (w := w) (.slice (some ⟨w.heap.size + 1, 0, none⟩) 1 1) (.slice o k c) (GW.sh fC nq) GW.l (by omega) (by omega) rV (Nat.le_refl _) (GW.far bC (by omega))
      rw [List.take_of_length_le (by rw [HL.out]; exact Nat.le_refl _)] at e
      exact ⟨_, _, _, _, rfl, e.1, e.2.1, e.2.2⟩
end Go.Proofs.YtmepcenbaohcoaaGreat
