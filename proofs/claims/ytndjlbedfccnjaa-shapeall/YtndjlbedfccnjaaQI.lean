
/- ShapeAll: any call. -/

import Derived.Test.YtndjlbedfccnjaaQH

import Derived.Test.YtndjlbedfccnjaaQC

namespace Go.Proofs.Ytndjlbedfccnjaa

open Go.RowKit

set_option linter.unusedVariables false

theorem Pl.gen {w w' : World} {B : Nat} {S C : Nat → Nat → Prop} (h : Pl w B S) (old : ∀ b o, S b o → ¬ C b o → w'.cell? ⟨b, o, none⟩ = w.cell? ⟨b, o, none⟩ ∧ w'.frozen? ⟨b, o, none⟩ = w.frozen? ⟨b, o, none⟩ ∧ ∀ t k, w.cell? ⟨b, o, none⟩ = some (.slice (some ⟨t, 0, none⟩) k k) → w'.heap[t]? = w.heap[t]?)
    (new : ∀ b o, S b o → C b o → ∃ g c, Hd w' B ⟨b, o, none⟩ (some ⟨g, 0, none⟩) c ∧ ((∃ k, w.cell? ⟨b, o, none⟩ = some (.slice (some ⟨g, 0, none⟩) k k)) ∨ w.heap.size ≤ g))
    (dist : ∀ b o b' o' g c c', S b o → S b' o' → C b o → C b' o' → w'.cell? ⟨b, o, none⟩ = some (.slice (some ⟨g, 0, none⟩) c c) → w'.cell? ⟨b', o', none⟩ = some (.slice (some ⟨g, 0, none⟩) c' c') → b = b' ∧ o = o') : Pl w' B S := by
  have mixed : ∀ b o b' o' t k k', S b o → S b' o' → C b o → ¬ C b' o' → w'.cell? ⟨b, o, none⟩ = some (.slice (some ⟨t, 0, none⟩) k k) → w'.cell? ⟨b', o', none⟩ = some (.slice (some ⟨t, 0, none⟩) k' k') → False := fun b o b' o' t k k' s s' c c' e e' => by
    obtain ⟨g, c1, H, hg⟩ := new b o s c
    have e2 := H.cell.symm.trans e
    simp only [Option.some.injEq, Value.slice.injEq, Addr.mk.injEq] at e2
    obtain ⟨⟨rfl, _⟩, _⟩ := e2
    have e3 := (old b' o' s' c').1.symm.trans e'
    rcases hg with ⟨k2, e4⟩ | hg
    · obtain ⟨rfl, rfl⟩ := h.apart b o b' o' g k2 k' s s' e4 e3
      exact c' c
    · obtain ⟨_, _, H2⟩ := h.hd b' o' s'
      have := (H2.rowOf e3).2.2.2.2.lt
      omega
  refine ⟨fun b o s => ?_, fun b o b' o' t k k' s s' e e' => ?_, fun b o b' o' t k s s' e => ?_⟩
  · by_cases c : C b o
    · obtain ⟨g, c1, H, _⟩ := new b o s c
      exact ⟨_, _, H⟩
    · obtain ⟨k1, k2, k3⟩ := old b o s c
      obtain ⟨go2, gn2, H2⟩ := h.hd b o s
      refine ⟨go2, gn2, k1.trans H2.cell, k2.trans H2.frozen, H2.base, ?_⟩
      rcases H2.row with e | ⟨t, e, h1, h2, h3⟩
      · exact .inl e
      · obtain ⟨cur, x1, x2, x3⟩ := h3.blk
        exact .inr ⟨t, e, h1, h2, ⟨⟨cur, (k3 t gn2 (e ▸ H2.cell)).trans x1, x2, x3⟩, h3.le⟩⟩
  · by_cases c : C b o
    · by_cases c' : C b' o'
      · exact dist b o b' o' t k k' s s' c c' e e'
      · exact (mixed b o b' o' t k k' s s' c c' e e').elim
    · by_cases c' : C b' o'
      · exact (mixed b' o' b o t k' k s' s c' c e' e).elim
      · exact h.apart b o b' o' t k k' s s' ((old b o s c).1.symm.trans e) ((old b' o' s' c').1.symm.trans e')
  · by_cases c : C b o
    · obtain ⟨g, c1, H, hg⟩ := new b o s c
      have e2 := H.cell.symm.trans e
      simp only [Option.some.injEq, Value.slice.injEq, Addr.mk.injEq] at e2
      obtain ⟨⟨rfl, _⟩, _⟩ := e2
      rcases hg with ⟨k2, e4⟩ | hg
      · exact h.off b o b' o' g k2 s s' e4
      · obtain ⟨_, _, H2⟩ := h.hd b' o' s'
        have hl := World.block_lt_of_cell? w _ H2.cell
        simp only at hl
        omega
    · exact h.off b o b' o' t k s s' ((old b o s c).1.symm.trans e)

section
variable {w w' : World} {B hb kn kc xn xc : Nat} {mo xo : Option Addr}

theorem Hv.ownRow (h : Hv w B hb mo kn kc xo xn xc) {o : Nat} (ho : o < 2) {go : Option Addr} {gn : Nat} (hc : w.cell? ⟨hb, o, none⟩ = some (.slice go gn gn)) {p : Nat} (e : some p = (Value.slice go 0 0).ownBlock) : go = some ⟨p, 0, none⟩ ∧ Kd w B hb p ∧ p ≠ hb ∧ (∀ m, mo = some m → p ≠ m.block) ∧ (∀ x, xo = some x → p ≠ x.block) := by
  have s : Ps hb mo kn hb o := .inl ⟨rfl, ho⟩
  obtain ⟨go0, gn0, H0⟩ := h.pl.hd hb o s
  have e0 := H0.cell.symm.trans hc
  simp only [Option.some.injEq, Value.slice.injEq] at e0
  have e1 : go = some ⟨p, 0, none⟩ := by
    rcases H0.row with ⟨e1, _⟩ | ⟨g', e1, _⟩
    · rw [← e0.1, e1] at e; cases e
    · rw [← e0.1, e1] at e; rw [← e0.1, e1]; cases e; rfl
  subst e1
  obtain ⟨r1, r2, r3, r4, r5, r6⟩ := h.row s hc
  exact ⟨rfl, h.kdr s hc, r4, r5, r6⟩
theorem Hv.played (h : Hv w B hb mo kn kc xo xn xc) {go : Option Addr} {gn g c : Nat} (hc : w.cell? ⟨hb, 0, none⟩ = some (.slice go gn gn)) (p : Played w w' B hb 0 go g c) : Hv w' B hb mo kn kc xo xn xc ∧ Kn B hb w w' := by
  have s : Ps hb mo kn hb 0 := .inl ⟨rfl, by omega⟩
  obtain ⟨x1, x2⟩ := p.others 2 (by omega)
  obtain ⟨x3, x4⟩ := p.others 3 (by omega)
  refine ⟨⟨h.pl.one s hc p.hd p.fresh p.keep p.others, x1.trans h.mc, x2.trans h.mf, x3.trans h.oc, x4.trans h.xf, h.mr.same (fun y e hy => ?_), h.xr.same (fun y e hy => ?_), h.mn, h.xn'⟩, Kn.keep p.keep (fun q hq e => ?_)⟩
  · exact p.keep.block y hy (fun e2 => e2.elim (h.mn _ e) (fun e2 => (h.ownRow (by omega) hc e2).2.2.2.1 _ e rfl))
  · exact p.keep.block y hy (fun e2 => e2.elim (h.xn' _ e) (fun e2 => (h.ownRow (by omega) hc e2).2.2.2.2 _ e rfl))
  · rcases e with e | e
    · exact ⟨by have := h.base; omega, .inl e⟩
    · exact (h.ownRow (by omega) hc e).2.1
theorem Hv.played2 (h : Hv w B hb mo kn kc xo xn xc) {go ko : Option Addr} {gn km g c g2 c2 : Nat} (hc : w.cell? ⟨hb, 0, none⟩ = some (.slice go gn gn)) (hc1 : w.cell? ⟨hb, 1, none⟩ = some (.slice ko km km)) (p : Played2 w w' B hb go ko g c g2 c2) : Hv w' B hb mo kn kc xo xn xc ∧ Kn B hb w w' := by
  have s0 : Ps hb mo kn hb 0 := .inl ⟨rfl, by omega⟩
  have s1 : Ps hb mo kn hb 1 := .inl ⟨rfl, by omega⟩
  obtain ⟨x1, x2⟩ := p.others 2 (by omega) (by omega)
  obtain ⟨x3, x4⟩ := p.others 3 (by omega) (by omega)
  refine ⟨⟨h.pl.gen (C := fun b o => b = hb ∧ o < 2) (fun b o s hn => ?_) (fun b o s hC => ?_) (fun b o b' o' t k k' s s' hC hC' e e' => ?_), x1.trans h.mc, x2.trans h.mf, x3.trans h.oc, x4.trans h.xf, h.mr.same (fun y e hy => ?_), h.xr.same (fun y e hy => ?_), h.mn, h.xn'⟩, Kn.keep p.keep (fun q hq e => ?_)⟩
  · rcases s with ⟨rfl, ho⟩ | ⟨em, ho⟩
    · exact absurd ⟨rfl, ho⟩ hn
    · have s : Ps hb mo kn b o := .inr ⟨em, ho⟩
      obtain ⟨_, _, H2⟩ := h.pl.hd b o s
      have hl := World.block_lt_of_cell? w _ H2.cell
      simp only at hl
      have eb := p.keep.block b hl (fun e2 => by
        rcases e2 with (e2 | e2) | e2
        · exact h.mn _ em e2
        · exact (h.ownRow (by omega) hc e2).2.2.2.1 _ em rfl
        · exact (h.ownRow (by omega) hc1 e2).2.2.2.1 _ em rfl)
      refine ⟨World.cell?_of_block (a := ⟨b, o, none⟩) eb, World.frozen?_of_block (a := ⟨b, o, none⟩) eb, fun t k e => ?_⟩
      obtain ⟨r1, r2, r3, r4, r5, r6⟩ := h.row s e
      have hbn : b ≠ hb := h.mn _ em
      refine p.keep.block t r1.lt (fun e2 => ?_)
      rcases e2 with (e2 | e2) | e2
      · exact r4 e2
      · have e3 := (h.ownRow (by omega) hc e2).1
        subst e3
        exact hbn (h.pl.apart b o hb 0 t k gn s s0 e hc).1
      · have e3 := (h.ownRow (by omega) hc1 e2).1
        subst e3
        exact hbn (h.pl.apart b o hb 1 t k km s s1 e hc1).1
  · obtain ⟨rfl, ho⟩ := hC
    by_cases e : o = 0
    · subst e
      exact ⟨g, c, p.hd, p.fresh.imp (fun (e : go = some ⟨g, 0, none⟩) => ⟨gn, by rw [← e]; exact hc⟩) id⟩
    · obtain rfl : o = 1 := by omega
      exact ⟨g2, c2, p.hd2, p.fresh2.imp (fun (e : ko = some ⟨g2, 0, none⟩) => ⟨km, by rw [← e]; exact hc1⟩) id⟩
  · obtain ⟨rfl, ho⟩ := hC
    obtain ⟨rfl, ho'⟩ := hC'
    refine ⟨rfl, ?_⟩
    have no : ∀ k k' t, w'.cell? ⟨b', 0, none⟩ = some (.slice (some ⟨t, 0, none⟩) k k) → w'.cell? ⟨b', 1, none⟩ = some (.slice (some ⟨t, 0, none⟩) k' k') → False := fun k k' t e e' => by
      have e2 := p.hd.cell.symm.trans e
      have e3 := p.hd2.cell.symm.trans e'
      simp only [Option.some.injEq, Value.slice.injEq, Addr.mk.injEq] at e2 e3
      exact p.ne (e2.1.1.trans e3.1.1.symm)
    by_cases e0 : o = 0
    · subst e0
      by_cases e1 : o' = 0
      · exact e1.symm
      · obtain rfl : o' = 1 := by omega
        exact (no _ _ _ e e').elim
    · obtain rfl : o = 1 := by omega
      by_cases e1 : o' = 0
      · subst e1; exact (no _ _ _ e' e).elim
      · omega
  · exact p.keep.block y hy (fun e2 => by
      rcases e2 with (e2 | e2) | e2
      · exact h.mn _ e e2
      · exact (h.ownRow (by omega) hc e2).2.2.2.1 _ e rfl
      · exact (h.ownRow (by omega) hc1 e2).2.2.2.1 _ e rfl)
  · exact p.keep.block y hy (fun e2 => by
      rcases e2 with (e2 | e2) | e2
      · exact h.xn' _ e e2
      · exact (h.ownRow (by omega) hc e2).2.2.2.2 _ e rfl
      · exact (h.ownRow (by omega) hc1 e2).2.2.2.2 _ e rfl)
  · rcases e with (e | e) | e
    · exact ⟨by have := h.base; omega, .inl e⟩
    · exact (h.ownRow (by omega) hc e).2.1
    · exact (h.ownRow (by omega) hc1 e).2.1
end

set_option maxHeartbeats 16000000 in
set_option maxRecDepth 20000 in
theorem plays_0 (hb : Nat) (K : Int) (so to' mo : Option Addr) (sn sc tn tc mn mc : Nat) (N : Int) (w : World) (n1 : (K == 1) = false) (n2 : (K == 2) = false) (n3 : (K == 3) = false) (n4 : (K == 4) = false) (n5 : (K == 5) = false) (n6 : (K == 6) = false) (n7 : (K == 7) = false) (n8 : (K == 8) = false) :
    Calls Try.prog 7 #[.pointer (some ⟨hb, 0, none⟩), .agg #[.int .i64 K, .slice so sn sc, .slice to' tn tc, .int .i64 N, .slice mo mn mc]] w fun e w' => e = .returned (.bool true) ∧ w.grownBy w' none := by
  have k0 := grownN (box_below w (.cells #[.int .i64 K, .slice so sn sc, .slice to' tn tc, .int .i64 N, .slice mo mn mc] 37))
  obtain ⟨y0, y1, y2, y3, y4⟩ := box5 (allocNew w (.cells #[.int .i64 K, .slice so sn sc, .slice to' tn tc, .int .i64 N, .slice mo mn mc] 37))
  go_enter Try.func7, Try.ntmps7
  go_wp2
  go_ret
  exact ⟨rfl, k0⟩

/-- A list that is handed in: it lies below a block. -/
structure Lb (w : World) (B : Nat) (ao : Option Addr) (n cap : Nat) (zs : List Int) : Prop where
  rd : Rd w ao n zs
  sl : Sl ao n cap
  low : 0 < n → ∀ b off, ao = some ⟨b, off, none⟩ → b < B
  small : n ≤ 100000000

theorem plays_any (hb B : Nat) (mo xo : Option Addr) (kn kc xn xc : Nat) (K N : Int) (so to' lo : Option Addr) (sn sc tn tc n lc : Nat) (zs ys : List Int) (zss : List (List Int)) (w : World) (h : Hv w B hb mo kn kc xo xn xc) (hs : Lb w B so sn sc zs) (ht : Lb w B to' tn tc ys) (hl : Rb w B lo n zss) (hls : Sl lo n lc) (hn : n ≤ 4194304) (hB : B ≤ w.heap.size) (N1 : -9223372036854775808 ≤ N) (N2 : N ≤ 9223372036854775807) :
    Calls Try.prog 7 #[.pointer (some ⟨hb, 0, none⟩), .agg #[.int .i64 K, .slice so sn sc, .slice to' tn tc, .int .i64 N, .slice lo n lc]] w fun e w' => e = .returned (.bool true) ∧ Kn B hb w w' ∧ ∃ mo' kn' kc' xo' xn' xc', Hv w' B hb mo' kn' kc' xo' xn' xc' := by
  obtain ⟨go, gn, H0⟩ := h.pl.hd hb 0 (.inl ⟨rfl, by omega⟩)
  obtain ⟨ko, km, H1⟩ := h.pl.hd hb 1 (.inl ⟨rfl, by omega⟩)
  have hdis : ∀ t, ko = some ⟨t, 0, none⟩ → some t ≠ (Value.slice go 0 0).ownBlock := fun t e e2 => by
    have e3 := (h.ownRow (by omega) H0.cell e2).1
    subst e; subst e3
    have := (h.pl.apart hb 0 hb 1 t gn km (.inl ⟨rfl, by omega⟩) (.inl ⟨rfl, by omega⟩) H0.cell H1.cell).2
    omega
  have fin1 : ∀ (e : Ending) (w' : World), (e = .returned (.bool true) ∧ ∃ g c, Played w w' B hb 0 go g c) → e = .returned (.bool true) ∧ Kn B hb w w' ∧ ∃ mo' kn' kc' xo' xn' xc', Hv w' B hb mo' kn' kc' xo' xn' xc' := fun e w' ⟨e1, g, c, p⟩ =>
    ⟨e1, (h.played H0.cell p).2, _, _, _, _, _, _, (h.played H0.cell p).1⟩
  have fin2 : ∀ (e : Ending) (w' : World), (e = .returned (.bool true) ∧ ∃ g c g2 c2, Played2 w w' B hb go ko g c g2 c2) → e = .returned (.bool true) ∧ Kn B hb w w' ∧ ∃ mo' kn' kc' xo' xn' xc', Hv w' B hb mo' kn' kc' xo' xn' xc' := fun e w' ⟨e1, g, c, g2, c2, p⟩ =>
    ⟨e1, (h.played2 H0.cell H1.cell p).2, _, _, _, _, _, _, (h.played2 H0.cell H1.cell p).1⟩
  by_cases k1 : K = 1
  · subst k1
    exact (plays_1 hb B go gn so to' lo sn sc tn tc n lc N zs w H0 hs.rd hs.sl hs.low hs.small hB N1 N2).mono fin1
  by_cases k2 : K = 2
  · subst k2
    exact (plays_2 hb B go gn so to' lo sn sc tn tc n lc N zs w H0 hs.rd hs.sl hs.low hs.small hB N1 N2).mono fin1
  by_cases k3 : K = 3
  · subst k3
    exact (plays_3 hb B go ko gn km so to' lo sn sc tn tc n lc N zs ys w H0 H1 hdis hs.rd hs.sl hs.low hs.small ht.rd ht.sl ht.low ht.small hB).mono fin2
  by_cases k4 : K = 4
  · subst k4
    exact (plays_4 hb B go gn so to' lo sn sc tn tc n lc N zs w H0 hs.rd hs.sl hs.low hs.small hB N1 N2).mono fin1
  by_cases k5 : K = 5
  · subst k5
    exact (plays_5 hb B go gn so to' lo sn sc tn tc n lc N zs w H0 hs.rd hs.sl hs.low hs.small hB N1 N2).mono fin1
  by_cases k6 : K = 6
  · subst k6
    exact (plays_6 hb B go ko gn km so to' lo sn sc tn tc n lc N zs ys w H0 H1 hdis hs.rd hs.sl hs.low hs.small ht.rd ht.sl ht.low ht.small hB).mono fin2
  by_cases k7 : K = 7
  · subst k7
    exact plays_7 hb B mo xo kn kc xn xc so to' lo sn sc tn tc n lc N zss w h hl hls hn hB
  by_cases k8 : K = 8
  · subst k8
    exact (plays_8 hb B go gn so to' lo sn sc tn tc n lc N zs w H0 hs.rd hs.sl hs.low hs.small hB N1 N2).mono fin1
  refine (plays_0 hb K so to' lo sn sc tn tc n lc N w (by simpa using k1) (by simpa using k2) (by simpa using k3) (by simpa using k4) (by simpa using k5) (by simpa using k6) (by simpa using k7) (by simpa using k8)).mono ?_
  rintro e w' ⟨e1, k⟩
  exact ⟨e1, Kn.grown k, _, _, _, _, _, _, h.grown k⟩
end Go.Proofs.Ytndjlbedfccnjaa
