/- The law ShapeThere of a shape that may be: every place is gone over. -/
import Derived.Test.YtedidfjonkepoaaThere1
namespace Go.Proofs.Ytedidfjonkepoaa
open Go.RowKit Go.Shelf
attribute [local go_sem] Oper.semAt_some
set_option linter.unusedVariables false

def lastL (zs : List Int) (k : Nat) : List Int := if k = 0 then [] else digs zs ((k : Int) - 1)

/-- Between two rounds of ShapeThere: its variables, and what lies below. -/
structure ThI (w : World) (so : Option Addr) (m sc Bn B1 B2 : Nat) (co : Option Addr) (c : Nat) (zs : List Int) (k : Nat) (W : World) : Prop where
  s : Boxed W w.heap.size 25 (.slice so m sc)
  r : Boxed W (w.heap.size + 1) 4 (.bool false)
  n : Boxed W Bn 3 (.int .i64 (pr zs))
  i : Boxed W (Bn + 1 + 1) 3 (.int .i64 (k : Nat))
  last : ∃ lo lc, Boxed W (Bn + 1) 25 (.slice lo (lastL zs k).length lc) ∧ Rd W lo (lastL zs k).length (lastL zs k)
  sq : Sq W B1 B2 co m c zs
  bel : Below w.heap.size w W

theorem boxed_keptL {W W' : World} {B l : Nat} {t : TypeId} {v : Value} {r : Loop} (h : Boxed W B t v) (hg : W.grownBy W' (some l)) (hl : W.heap[l]? = some (.loop r)) : Boxed W' B t v := by
  refine h.kept hg (fun e => ?_)
  cases e
  have h' : W.heap[B]? = _ := h
  rw [hl] at h'
  cases h'

theorem ThI.keptL {w : World} {so : Option Addr} {m sc Bn B1 B2 : Nat} {co : Option Addr} {c : Nat} {zs : List Int} {k l : Nat} {r : Loop} {W W' : World} (h : ThI w so m sc Bn B1 B2 co c zs k W) (hg : W.grownBy W' (some l)) (hl : W.heap[l]? = some (.loop r)) (hw : w.heap.size ≤ l) : ThI w so m sc Bn B1 B2 co c zs k W' := by
  obtain ⟨lo, lc, h1, h2⟩ := h.last
  exact ⟨boxed_keptL h.s hg hl, boxed_keptL h.r hg hl, boxed_keptL h.n hg hl, boxed_keptL h.i hg hl, ⟨lo, lc, boxed_keptL h1 hg hl, h2.keptL hg hl⟩, ⟨boxed_keptL h.sq.size hg hl, boxed_keptL h.sq.list hg hl, h.sq.rd.keptL hg hl⟩, h.bel.grown hg h.bel.size (fun k e => by cases e; exact hw)⟩
theorem ThI.below {w : World} {so : Option Addr} {m sc Bn B1 B2 : Nat} {co : Option Addr} {c : Nat} {zs : List Int} {k B : Nat} {W W' : World} (h : ThI w so m sc Bn B1 B2 co c zs k W) (hb : Below B W W') (hB : W.heap.size ≤ B) : ThI w so m sc Bn B1 B2 co c zs k W' := by
  have hg := grown_of_below (hb.mono hB)
  obtain ⟨lo, lc, h1, h2⟩ := h.last
  exact ⟨h.s.kept hg (by simp), h.r.kept hg (by simp), h.n.kept hg (by simp), h.i.kept hg (by simp), ⟨lo, lc, h1.kept hg (by simp), h2.kept hg (by simp)⟩, h.sq.kept hg (by simp) (by simp) (by simp), bt h.bel (hb.mono hB) h.bel.size⟩

/-- What a round does to the two variables. -/
theorem ThI.step {w : World} {so : Option Addr} {m sc Bn B1 B2 : Nat} {co : Option Addr} {c : Nat} {zs : List Int} {k l B : Nat} {L : Lp} {W : World} {lo : Option Addr} {lc : Nat} (h : ThI w so m sc Bn B1 B2 co c zs k W) (hf : Fr W B lo m lc (digs zs k)) (hB : Bn + 3 ≤ B) (hBn : w.heap.size + 2 ≤ Bn)
    (hb1 : B1 ≠ Bn + 1 ∧ B1 ≠ Bn + 1 + 1) (hb2 : B2 ≠ Bn + 1 ∧ B2 ≠ Bn + 1 + 1) (hco : ∀ b off, co = some ⟨b, off, none⟩ → b ≠ Bn + 1 ∧ b ≠ Bn + 1 + 1) (hr : L.is .busy none l W) (hl1 : Bn + 3 ≤ l) (hl2 : Bn + 3 ≤ L.own) :
    L.is .busy none l ((W.setCell ⟨Bn + 1, 0, none⟩ (.slice lo m lc)).setCell ⟨Bn + 1 + 1, 0, none⟩ (.int .i64 ((k : Int) + 1))) ∧
    ∀ W', ((W.setCell ⟨Bn + 1, 0, none⟩ (.slice lo m lc)).setCell ⟨Bn + 1 + 1, 0, none⟩ (.int .i64 ((k : Int) + 1))).grownBy W' (some l) → ThI w so m sc Bn B1 B2 co c zs (k + 1) W' := by
  obtain ⟨lo0, lc0, hl0, _⟩ := h.last
  have g1 := grownBy_setCell' W (Bn + 1) (.slice lo m lc)
  have g2 := grownBy_setCell' (W.setCell ⟨Bn + 1, 0, none⟩ (.slice lo m lc)) (Bn + 1 + 1) (.int .i64 ((k : Int) + 1))
  have r2 := (hr.kept g1 (some_ne (by omega)) (some_ne (by omega))).kept g2 (some_ne (by omega)) (some_ne (by omega))
  have hlen : (lastL zs (k + 1)) = digs zs k := by unfold lastL; rw [if_neg (by omega)]; congr 1; omega
  have hrd : Rd ((W.setCell ⟨Bn + 1, 0, none⟩ (.slice lo m lc)).setCell ⟨Bn + 1 + 1, 0, none⟩ (.int .i64 ((k : Int) + 1))) lo m (digs zs k) := by
    have hne : ∀ b off, lo = some ⟨b, off, none⟩ → B ≤ b := fun b off e => by
      rcases hf.own.2 with ⟨e2, _⟩ | ⟨g, cc, cur, e2, hg, _⟩
      · cases e2; cases e
      · cases e2; cases e; exact hg
    exact (hf.rd.kept g1 (fun b off e => some_ne (by have := hne b off e; omega))).kept g2 (fun b off e => some_ne (by have := hne b off e; omega))
  have hdl : (digs zs k).length = m := hf.rd.len
  have all : ThI w so m sc Bn B1 B2 co c zs (k + 1) ((W.setCell ⟨Bn + 1, 0, none⟩ (.slice lo m lc)).setCell ⟨Bn + 1 + 1, 0, none⟩ (.int .i64 ((k : Int) + 1))) := by
    refine ⟨(h.s.kept g1 (some_ne (by omega))).kept g2 (some_ne (by omega)), (h.r.kept g1 (some_ne (by omega))).kept g2 (some_ne (by omega)), (h.n.kept g1 (some_ne (by omega))).kept g2 (some_ne (by omega)), ?_, ⟨lo, lc, ?_, ?_⟩, ?_, ?_⟩
    · exact (h.i.kept g1 (some_ne (by omega))).set _
    · rw [hlen, hdl]; exact (hl0.set (.slice lo m lc)).kept g2 (some_ne (by omega))
    · rw [hlen, hdl]; exact hrd
    · exact (h.sq.kept g1 (some_ne hb1.1) (some_ne hb2.1) (fun b off e => some_ne (hco b off e).1)).kept g2 (some_ne hb1.2) (some_ne hb2.2) (fun b off e => some_ne (hco b off e).2)
    · exact (h.bel.setCell (p := ⟨Bn + 1, 0, none⟩) (by simp; omega) _).setCell (p := ⟨Bn + 1 + 1, 0, none⟩) (by simp; omega) _
  exact ⟨r2, fun W' hg => all.keptL hg r2.1 (by omega)⟩

theorem eqTh (W : World) (co : Option Addr) (k c1 : Nat) (eo : Option Addr) (j c2 : Nat) (l : List Int) (a1 : Rd W co k l) (a2 : Rd W eo j l) :
    Calls Try.prog 16 #[.slice co k c1, .slice eo j c2] W fun e w' => e = .returned (.bool true) ∧ Below W.heap.size W w' :=
  (eqInts_any co eo k j c1 c2 l l W a1 a2).mono fun e w' ⟨e1, q, e2⟩ => ⟨by rw [e1, eqB_refl], by rw [e2]; exact below_drewN (Below.refl _ _) q⟩

set_option maxRecDepth 100000 in
set_option maxHeartbeats 8000000 in
theorem there_yes (so ao : Option Addr) (m sc n cap : Nat) (zs ys : List Int) (w : World) (h : Rd w so m zs) (g : Rd w ao n ys) (h0 : mayF zs = 0) :
    Calls Try.prog 5 #[.slice so m sc, .slice ao n cap] w fun e w' => e = .returned (.bool true) ∧ Below w.heap.size w w' := by
  have hpb := pr_le h0
  have bs := (Boxed.new w 25 (.slice so m sc)).alloc (.cells #[.bool false] 4)
  have br := Boxed.new (w.alloc (.cells #[.slice so m sc] 25)) 4 (.bool false)
  rw [World.size_alloc] at br
  have bw : Below w.heap.size w ((w.alloc (.cells #[.slice so m sc] 25)).alloc (.cells #[.bool false] 4)) := ((Below.refl _ w).alloc (Nat.le_refl _) _).alloc (by simp) _
  have rs := h.below bw (Nat.le_refl _)
  have hmay : ∀ W, Rd W so m zs → Calls Try.prog 17 #[.slice so m sc] W fun e w' => e = .returned (.int .i64 0) ∧ w' = W := fun W hW => by
    have := may_any so m sc zs W hW; rwa [h0] at this
  have hsize : ∀ W, Rd W so m zs → Calls Try.prog 18 #[.slice so m sc] W fun e w' => e = .returned (.tuple #[.int .i64 (pr zs), .int .i64 0]) ∧ w' = W := fun W hW => by
    have := size_any so m sc zs W hW; rwa [sizeF_ok h0, h0] at this
  have H0 : Hid (mayF zs = 0) := h0
  clear h0
  refine (callsIn_wide (n := 9)).1 ?_
  refine callsIn_of_wp_marks Try.func5 rfl trivial ?_ rfl
  simp only [Try.ntmps5, List.size_toArray, List.length_cons, List.length_nil, Nat.reduceAdd, Nat.reduceSub, Array.replicate_succ, Array.replicate_zero, List.push_toArray, List.append_toArray, List.nil_append, List.cons_append]
  gi_wp2_with (first
    | (refine ⟨trivial, ?_⟩; gi_at_call 8; refine (callsIn_wide.2 (begun_any _)).mono ?_; rintro e w1 ⟨rfl, hb1⟩; have q1 := grown_of_below hb1; replace bs := bs.kept q1 (by simp); replace br := br.kept q1 (by simp); replace rs := rs.below hb1 (Nat.le_refl _); replace bw := bt bw hb1 (by simp; omega); have cs := bs.cell; clear q1)
    | (refine ⟨trivial, ?_⟩; gi_at_call 17; refine (callsIn_wide.2 (hmay _ rs)).mono ?_; rintro e w' ⟨rfl, hw⟩; rw [hw]; clear hw w' hmay)
    | (refine ⟨trivial, ?_⟩; gi_at_call 18; refine (callsIn_wide.2 (hsize _ rs)).mono ?_; rintro e w' ⟨rfl, hw⟩; rw [hw]; clear hw w' hsize; have cs3 := (((bs.alloc (.cells #[.int .i64 (pr zs)] 3)).alloc (.cells #[.slice none 0 0] 25)).alloc (.cells #[.int .i64 0] 3)).cell; have rs3 := ((rs.alloc (.cells #[.int .i64 (pr zs)] 3)).alloc (.cells #[.slice none 0 0] 25)).alloc (.cells #[.int .i64 0] 3))
    | (refine ⟨trivial, ?_⟩; gi_at_call 22; refine (callsIn_wide.2 (all_any _ _ _ _ _ rs3)).mono ?_; rintro e w4 ⟨B1, B2, co, c, rfl, hq4, hf4, hB1, hB2, hb4⟩))
  have hw1 : w.heap.size + 2 ≤ w1.heap.size := by have := br.lt; omega
  have st : ThI w so m sc w1.heap.size B1 B2 co c zs 0 w4 := by
    have g4 := grown_of_below hb4
    have b1 := Boxed.new w1 3 (.int .i64 (pr zs))
    have b2 := Boxed.new (w1.alloc (.cells #[.int .i64 (pr zs)] 3)) 25 (.slice none 0 0)
    have b3 := Boxed.new ((w1.alloc (.cells #[.int .i64 (pr zs)] 3)).alloc (.cells #[.slice none 0 0] 25)) 3 (.int .i64 0)
    simp only [World.size_alloc] at b2 b3
    exact ⟨(((bs.alloc _).alloc _).alloc _).kept g4 (by simp), (((br.alloc _).alloc _).alloc _).kept g4 (by simp), ((b1.alloc _).alloc _).kept g4 (by simp), b3.kept g4 (by simp), ⟨none, 0, (b2.alloc _).kept g4 (by simp), Rd.nil _⟩, hq4, bt (((bw.alloc bw.size _).alloc (by simp; omega) _).alloc (by simp; omega) _) hb4 (by simp; omega)⟩
  simp only [World.size_alloc] at hB1 hB2 hf4
  have hbb1 : B1 ≠ w1.heap.size + 1 ∧ B1 ≠ w1.heap.size + 1 + 1 := by omega
  have hbb2 : B2 ≠ w1.heap.size + 1 ∧ B2 ≠ w1.heap.size + 1 + 1 := by omega
  have hco : ∀ b off, co = some ⟨b, off, none⟩ → b ≠ w1.heap.size + 1 ∧ b ≠ w1.heap.size + 1 + 1 := fun b off e => by
    rcases hf4.own.2 with ⟨e2, _⟩ | ⟨g, cc, cur, e2, hg, _⟩
    · cases e2; cases e
    · cases e2; cases e; omega
  have hw4 : w1.heap.size + 3 ≤ w4.heap.size := by have := hb4.size; simp at this; omega
  clear hq4 hf4 hb4 cs3 rs3 bs br rs bw hb1 cs
  generalize w1.heap.size = Bn at *
  have hYat : ∀ (k : Nat) W, (k : Int) < pr zs → Rd W so m zs → Calls Try.prog 20 #[.slice so m sc, .int .i64 (k : Nat)] W fun e w' => ∃ co k2 c, e = .returned (.tuple #[.slice co k2 c, .int .i64 0]) ∧ Rd w' co k2 (digs zs k) ∧ Below W.heap.size W w' := fun k W hk hW => by
    have e0 := at_in H0.out (show (0 : Int) ≤ (k : Nat) by omega) hk
    refine (at_any so m sc zs (k : Nat) W hW (by omega) (by omega)).mono ?_
    rintro e w' ⟨co, k2, c, rfl, hf, hb⟩
    exact ⟨co, k2, c, by rw [e0.1], by have := hf.rd; rwa [e0.2] at this, hb⟩
  have hYpl : ∀ (k : Nat) W lo lc, (k : Int) < pr zs → Rd W so m zs → Rd W lo m (digs zs k) → Calls Try.prog 19 #[.slice so m sc, .slice lo m lc] W fun e w' => e = .returned (.tuple #[.int .i64 (k : Nat), .int .i64 0]) ∧ w' = W := fun k W lo lc hk h1 h2 => by
    have := place_any so lo m m sc lc zs _ W h1 h2
    have e0 := place_digs H0.out (show (0 : Int) ≤ (k : Nat) by omega) hk
    rwa [e0.1, e0.2] at this
  refine range_over (gf := 43) (lb := #[.pointer (some ⟨B1, 0, none⟩), .pointer (some ⟨B2, 0, none⟩)]) rfl (enters_of Try.func43 (by kernel_rfl) rfl) (ThI w so m sc Bn B1 B2 co c zs (pr zs).toNat) (fun _ _ => False) ?it ?done ?stop
  case stop => exact fun _ _ _ h => h.elim
  case done =>
    intro W hD hI
    have hDl : w4.heap.size < W.heap.size := (Array.getElem?_eq_some_iff.1 hD).1
    have cs := hI.s.cell
    have cn := hI.n.cell
    have ci := hI.i.cell
    rw [Int.toNat_of_nonneg hpb.1] at ci
    have rs := h.below hI.bel (Nat.le_refl _)
    have ro := g.below hI.bel (Nat.le_refl _)
    have hA1 : ∀ W, Rd W so m zs → Calls Try.prog 20 #[.slice so m sc, .int .i64 (pr zs)] W fun e w' => ∃ co k c, e = .returned (.tuple #[.slice co k c, .int .i64 13]) ∧ Below W.heap.size W w' := fun W hW => by
      refine (at_any so m sc zs (pr zs) W hW (by omega) (by omega)).mono ?_
      rintro e w' ⟨co, k2, c, rfl, hf, hb⟩
      exact ⟨co, k2, c, by rw [(at_out H0.out (.inr (Int.le_refl _))).1], hb⟩
    have hA2 : ∀ W, Rd W so m zs → Calls Try.prog 20 #[.slice so m sc, .int .i64 (-1)] W fun e w' => ∃ co k c, e = .returned (.tuple #[.slice co k c, .int .i64 13]) ∧ Below W.heap.size W w' := fun W hW => by
      refine (at_any so m sc zs (-1) W hW (by omega) (by omega)).mono ?_
      rintro e w' ⟨co, k2, c, rfl, hf, hb⟩
      exact ⟨co, k2, c, by rw [(at_out H0.out (.inl (by omega))).1], hb⟩
    have tail : ∀ (V : World), Below W.heap.size W V → (V.setCell ⟨w.heap.size + 1, 0, none⟩ (.bool true)).heap[w4.heap.size]? = some (.deferred (some [])) ∧ ((V.setCell ⟨w.heap.size + 1, 0, none⟩ (.bool true)).putObj w4.heap.size (.deferred none)).cell? ⟨w.heap.size + 1, 0, none⟩ = some (.bool true) ∧ Below w.heap.size w ((V.setCell ⟨w.heap.size + 1, 0, none⟩ (.bool true)).putObj w4.heap.size (.deferred none)) := fun V hb => by
      have hIV := hI.below hb (Nat.le_refl _)
      have hne : w4.heap.size ≠ w.heap.size + 1 := by omega
      have e1 : (V.setCell ⟨w.heap.size + 1, 0, none⟩ (.bool true)).heap[w4.heap.size]? = some (.deferred (some [])) := by
        rw [Below.heap_setCell _ _ _ _ (by simpa using hne), hb.block _ hDl]; exact hD
      have b1 := hIV.r.set (.bool true)
      have g1 := grownBy_putObj' (V.setCell ⟨w.heap.size + 1, 0, none⟩ (.bool true)) w4.heap.size (.deferred none)
      have bb := hIV.bel.setCell (p := ⟨w.heap.size + 1, 0, none⟩) (by simp) (.bool true)
      exact ⟨e1, (b1.kept g1 (some_ne (Ne.symm hne))).cell, bb.grown g1 bb.size (fun k e => by cases e; omega)⟩
    clear hYat hYpl st hco hbb1 hbb2
    by_cases hpE : placeE zs ys = 0
    · have bk := back H0.out hpE
      have hPl : ∀ W, Rd W so m zs → Rd W ao n ys → Calls Try.prog 19 #[.slice so m sc, .slice ao n cap] W fun e w' => e = .returned (.tuple #[.int .i64 (placeN zs ys), .int .i64 0]) ∧ w' = W := fun W h1 h2 => by
        have := place_any so ao m n sc cap zs ys W h1 h2; rwa [hpE] at this
      have hA3 : ∀ W, Rd W so m zs → Calls Try.prog 20 #[.slice so m sc, .int .i64 (placeN zs ys)] W fun e w' => ∃ co k c, e = .returned (.tuple #[.slice co k c, .int .i64 0]) ∧ Rd w' co k ys ∧ Below W.heap.size W w' := fun W hW => by
        have e0 := at_in H0.out bk.1 bk.2.1
        refine (at_any so m sc zs _ W hW (by omega) (by omega)).mono ?_
        rintro e w' ⟨co, k2, c, rfl, hf, hb⟩
        exact ⟨co, k2, c, by rw [e0.1], by have := hf.rd; rwa [e0.2, bk.2.2] at this, hb⟩
      clear bk hpE
      gi_wp2_with (first
        | (refine ⟨trivial, ?_⟩; gi_at_call 20; (with_reducible refine (callsIn_wide.2 (hA1 _ rs)).mono ?_); clear hA1; rintro e w5 ⟨co5, k5, c5, rfl, hb5⟩; have hI5 := hI.below hb5 (Nat.le_refl _); have cs5 := hI5.s.cell; have rs5 := h.below hI5.bel (Nat.le_refl _); clear cs rs cn)
        | (refine ⟨trivial, ?_⟩; gi_at_call 20; (with_reducible refine (callsIn_wide.2 (hA2 _ rs5)).mono ?_); clear hA2; rintro e w6 ⟨co6, k6, c6, rfl, hb6⟩; have hI6 := hI5.below hb6 (Nat.le_refl _); have cs6 := hI6.s.cell; have rs6 := h.below hI6.bel (Nat.le_refl _); have ro6 := g.below hI6.bel (Nat.le_refl _); clear cs5 rs5)
        | (refine ⟨trivial, ?_⟩; gi_at_call 19; (with_reducible refine (callsIn_wide.2 (hPl _ rs6 ro6)).mono ?_); clear hPl; rintro e w' ⟨rfl, hw⟩; rw [hw]; clear hw w')
        | (refine ⟨trivial, ?_⟩; gi_at_call 20; (with_reducible refine (callsIn_wide.2 (hA3 _ rs6)).mono ?_); clear hA3; rintro e w7 ⟨co7, k7, c7, rfl, rb7, hb7⟩; have hI7 := hI6.below hb7 (Nat.le_refl _); have ci7 := hI7.i.cell; rw [Int.toNat_of_nonneg hpb.1] at ci7; have cn7 := hI7.n.cell; have ro7 := g.below hI7.bel (Nat.le_refl _); clear cs6 rs6 ro6)
        | (refine ⟨trivial, ?_⟩; gi_at_call 16; (with_reducible refine (callsIn_wide.2 (eqTh _ _ _ _ _ _ _ _ rb7 ro7)).mono ?_); rintro e w8 ⟨rfl, hb8⟩; have hI8 := hI7.below hb8 (Nat.le_refl _); have cr8 := hI8.r.cell; have zr8 := hI8.r.frozen))
      have bb := bt (bt (bt hb5 hb6 hb5.size) hb7 (bt hb5 hb6 hb5.size).size) hb8 (bt (bt hb5 hb6 hb5.size) hb7 (bt hb5 hb6 hb5.size).size).size
      obtain ⟨t1, t2, t3⟩ := tail w8 bb
      refine ⟨by simp, .inl ⟨_, _, rfl, run_takeDeferred t1, ?_⟩⟩
      refine ⟨.bool true, ?_, rfl, t3⟩
      simp [results, Try.f5, go_sem, t2]
    · have f1 : (placeE zs ys != 0) = true := by simpa using hpE
      have hPl : ∀ W, Rd W so m zs → Rd W ao n ys → Calls Try.prog 19 #[.slice so m sc, .slice ao n cap] W fun e w' => e = .returned (.tuple #[.int .i64 0, .int .i64 (placeE zs ys)]) ∧ w' = W := fun W h1 h2 => by
        have := place_any so ao m n sc cap zs ys W h1 h2
        rwa [show placeN zs ys = 0 by unfold placeN; rw [if_neg hpE]] at this
      have hA3 : ∀ W, Rd W so m zs → Calls Try.prog 20 #[.slice so m sc, .int .i64 0] W fun e w' => ∃ co k c, e = .returned (.tuple #[.slice co k c, .int .i64 (atE zs 0)]) ∧ Below W.heap.size W w' := fun W hW => by
        refine (at_any so m sc zs _ W hW (by omega) (by omega)).mono ?_
        rintro e w' ⟨co, k2, c, rfl, hf, hb⟩
        exact ⟨co, k2, c, rfl, hb⟩
      clear hpE
      gi_wp2_with (first
        | (refine ⟨trivial, ?_⟩; gi_at_call 20; (with_reducible refine (callsIn_wide.2 (hA1 _ rs)).mono ?_); clear hA1; rintro e w5 ⟨co5, k5, c5, rfl, hb5⟩; have hI5 := hI.below hb5 (Nat.le_refl _); have cs5 := hI5.s.cell; have rs5 := h.below hI5.bel (Nat.le_refl _); clear cs rs cn)
        | (refine ⟨trivial, ?_⟩; gi_at_call 20; (with_reducible refine (callsIn_wide.2 (hA2 _ rs5)).mono ?_); clear hA2; rintro e w6 ⟨co6, k6, c6, rfl, hb6⟩; have hI6 := hI5.below hb6 (Nat.le_refl _); have cs6 := hI6.s.cell; have rs6 := h.below hI6.bel (Nat.le_refl _); have ro6 := g.below hI6.bel (Nat.le_refl _); clear cs5 rs5)
        | (refine ⟨trivial, ?_⟩; gi_at_call 19; (with_reducible refine (callsIn_wide.2 (hPl _ rs6 ro6)).mono ?_); clear hPl; rintro e w' ⟨rfl, hw⟩; rw [hw]; clear hw w')
        | (refine ⟨trivial, ?_⟩; gi_at_call 20; (with_reducible refine (callsIn_wide.2 (hA3 _ rs6)).mono ?_); clear hA3; rintro e w7 ⟨co7, k7, c7, rfl, hb7⟩; have hI7 := hI6.below hb7 (Nat.le_refl _); have ci7 := hI7.i.cell; rw [Int.toNat_of_nonneg hpb.1] at ci7; have cn7 := hI7.n.cell; have cr7 := hI7.r.cell; have zr7 := hI7.r.frozen; clear cs6 rs6 ro6))
      all_goals first
        | (exfalso; rename_i hu _; exact absurd hu (by simp [undef]))
        | skip
      refine ⟨trivial, ?_⟩
      gi_wp2
      have bb := bt (bt hb5 hb6 hb5.size) hb7 (bt hb5 hb6 hb5.size).size
      obtain ⟨t1, t2, t3⟩ := tail w7 bb
      refine ⟨by simp, .inl ⟨_, _, rfl, run_takeDeferred t1, ?_⟩⟩
      refine ⟨.bool true, ?_, rfl, t3⟩
      simp [results, Try.f5, go_sem, t2]
  case it =>
    intro L l W eT eP eA eB eO el hr hb hs
    have hl1 : Bn + 3 ≤ l := by omega
    have hown : Bn + 3 ≤ L.own := by omega
    have st1 := st.below hb (Nat.le_refl _)
    clear el hs hb st eO
    refine (all1_range 8 l B1 B2 (by omega) co m c zs H0.out (fun k W => L.is .ready none l W ∧ ThI w so m sc Bn B1 B2 co c zs k W) ?hJ ?hJb ?hY W ⟨hr, st1⟩).mono ?_
    case hJ => exact fun k W hJ => hJ.2.sq
    case hJb => exact fun k W W' hJ hb => ⟨hJ.1.below hb (Nat.le_refl _), hJ.2.below hb (Nat.le_refl _)⟩
    case hY =>
      rintro k W0 W1 lo lc hk ⟨hr1, hi1⟩ hsz ⟨hr0, hi0⟩ hf
      clear hr st1 W
      have hB : Bn + 3 ≤ W0.heap.size := by have := hi0.i.lt; omega
      refine YieldAt.mono (yield_round (K := ThI w so m sc Bn B1 B2 co c zs (k + 1)) (X := fun _ _ => False) eT eP eA eB hr1 rfl ?_) ?_
      · clear eT eP eA eB hr0 hi0
        gi_wp2
        refine ⟨hr1, fun W2 hr2 hg2 => ?_⟩
        have hi2 := hi1.keptL hg2 hr1.1 (by omega)
        have hf2 := hf.keptL hg2 hr1.1
        clear hg2 hi1 hr1 hf hsz
        have cs := hi2.s.cell
        have ci := hi2.i.cell
        have rs := h.below hi2.bel (Nat.le_refl _)
        have rl := hf2.rd
        by_cases hk0 : k = 0
        · have hk0' : decide ((0 : Int) < (k : Nat)) = false := decide_eq_false (by omega)
          have hk0'' : decide (0 < k) = false := decide_eq_false (by omega)
          have HK0 : Hid (k = 0) := hk0
          clear hk0
          gi_wp2_with (first
            | (refine ⟨trivial, ?_⟩; gi_at_call 20; refine (CallsIn.inRound l (callsIn_wide.2 (hYat k _ hk rs))).mono ?_; clear hYat; rintro e w5 ⟨co5, k5, c5, rfl, rd5, hb5⟩; replace hi2 := hi2.below hb5 (Nat.le_refl _); replace hr2 := hr2.below hb5 (Nat.le_refl _); replace hf2 := hf2.below hb5 (Nat.le_refl _); have cs5 := hi2.s.cell; have ci5 := hi2.i.cell; have rs5 := h.below hi2.bel (Nat.le_refl _); have rl5 := hf2.rd; clear cs ci rs rl)
            | (refine ⟨trivial, ?_⟩; gi_at_call 19; refine (CallsIn.inRound l (callsIn_wide.2 (hYpl k _ _ _ hk rs5 rl5))).mono ?_; clear hYpl; rintro e w' ⟨rfl, hw⟩; rw [hw]; clear hw w')
            | (refine ⟨trivial, ?_⟩; gi_at_call 16; refine (CallsIn.inRound l (callsIn_wide.2 (eqTh _ _ _ _ _ _ _ _ rl5 rd5))).mono ?_; rintro e w6 ⟨rfl, hb6⟩; replace hi2 := hi2.below hb6 (Nat.le_refl _); replace hr2 := hr2.below hb6 (Nat.le_refl _); replace hf2 := hf2.below hb6 (Nat.le_refl _); have ci6 := hi2.i.cell; have rl6 := hf2.rd; skip; clear cs5 ci5 rs5 rl5 rd5))
          refine ⟨trivial, ?_⟩
          gi_wp2_with (gi_at_builtin; refine wpListIn_copy rfl _ _ rfl _ _ _ _ rfl rfl rl6 ?_; intro lo8 lc8 w8 hf8 hb8; have hi8 := hi2.below hb8 (Nat.le_refl _); have hr8 := hr2.below hb8 (Nat.le_refl _); obtain ⟨lo9, lc9, bl9, rl9⟩ := hi8.last; have cl8 := bl9.cell; have zl8 := bl9.frozen; have bi8 := Boxed.other (B' := Bn + 1) hi8.i (by omega) (.slice lo8 m lc8); have ci8 := bi8.cell; have zi8 := bi8.frozen; have stp := ThI.step hi8 hf8 (by have := hi2.i.lt; omega) hw1 hbb1 hbb2 hco hr8 hl1 hown; have cn8 := (Boxed.other (B' := Bn + 1 + 1) (Boxed.other (B' := Bn + 1) hi8.n (by omega) (.slice lo8 m lc8)) (by omega) (.int .i64 ((k : Int) + 1))).cell)
          exact stp
        · have hkp : (0 : Int) < (k : Nat) := by omega
          have hkp' : 0 < k := by omega
          have hlast : lastL zs k = digs zs ((k : Int) - 1) := by unfold lastL; rw [if_neg hk0]
          have hlm : (digs zs ((k : Int) - 1)).length = m := by rw [digs_len]; exact h.len
          have hris : ∃ j, j < m ∧ (∀ i, i < j → nth (digs zs ((k : Int) - 1)) i = nth (digs zs k) i) ∧ nth (digs zs ((k : Int) - 1)) j < nth (digs zs k) j := by
            have := rise_digs H0.out (p := (k : Int) - 1) (by omega) (by omega)
            rw [show (k : Int) - 1 + 1 = k by omega, h.len] at this
            exact this
          gi_wp2_with (first
            | (refine ⟨trivial, ?_⟩; gi_at_call 20; refine (CallsIn.inRound l (callsIn_wide.2 (hYat k _ hk rs))).mono ?_; clear hYat; rintro e w5 ⟨co5, k5, c5, rfl, rd5, hb5⟩; replace hi2 := hi2.below hb5 (Nat.le_refl _); replace hr2 := hr2.below hb5 (Nat.le_refl _); replace hf2 := hf2.below hb5 (Nat.le_refl _); have cs5 := hi2.s.cell; have ci5 := hi2.i.cell; have rs5 := h.below hi2.bel (Nat.le_refl _); have rl5 := hf2.rd; clear cs ci rs rl)
            | (refine ⟨trivial, ?_⟩; gi_at_call 19; refine (CallsIn.inRound l (callsIn_wide.2 (hYpl k _ _ _ hk rs5 rl5))).mono ?_; clear hYpl; rintro e w' ⟨rfl, hw⟩; rw [hw]; clear hw w')
            | (refine ⟨trivial, ?_⟩; gi_at_call 16; refine (CallsIn.inRound l (callsIn_wide.2 (eqTh _ _ _ _ _ _ _ _ rl5 rd5))).mono ?_; rintro e w6 ⟨rfl, hb6⟩; replace hi2 := hi2.below hb6 (Nat.le_refl _); replace hr2 := hr2.below hb6 (Nat.le_refl _); replace hf2 := hf2.below hb6 (Nat.le_refl _); have ci6 := hi2.i.cell; have rl6 := hf2.rd; obtain ⟨lo1, lc1, bl1, rl1⟩ := hi2.last; rw [hlast, hlm] at bl1 rl1; have cl1 := bl1.cell; clear cs5 ci5 rs5 rl5 rd5)
            | (refine ⟨trivial, ?_⟩; gi_at_call 23; refine (CallsIn.inRound l (callsIn_wide.2 (rises_true _ _ _ _ _ _ _ _ rl1 rl6 hris))).mono ?_; rintro e w7 ⟨rfl, q7, hq7⟩; have hb7 : Below w6.heap.size w6 w7 := (by rw [hq7]; exact below_drewN (Below.refl _ _) q7); clear hq7; replace hi2 := hi2.below hb7 (Nat.le_refl _); replace hr2 := hr2.below hb7 (Nat.le_refl _); replace hf2 := hf2.below hb7 (Nat.le_refl _); have ci7 := hi2.i.cell; have rl7 := hf2.rd; clear ci6 rl6 cl1)
            | (gi_at_builtin; refine wpListIn_copy rfl _ _ rfl _ _ _ _ rfl rfl rl7 ?_; intro lo8 lc8 w8 hf8 hb8; have hi8 := hi2.below hb8 (Nat.le_refl _); have hr8 := hr2.below hb8 (Nat.le_refl _); obtain ⟨lo9, lc9, bl9, rl9⟩ := hi8.last; have cl8 := bl9.cell; have zl8 := bl9.frozen; have bi8 := Boxed.other (B' := Bn + 1) hi8.i (by omega) (.slice lo8 m lc8); have ci8 := bi8.cell; have zi8 := bi8.frozen; have stp := ThI.step hi8 hf8 (by have := hi2.i.lt; omega) hw1 hbb1 hbb2 hco hr8 hl1 hown; have cn8 := (Boxed.other (B' := Bn + 1 + 1) (Boxed.other (B' := Bn + 1) hi8.n (by omega) (.slice lo8 m lc8)) (by omega) (.int .i64 ((k : Int) + 1))).cell))
          exact stp
      · rintro e W2 (⟨rfl, h1, h2⟩ | ⟨_, c, _, h⟩)
        · exact ⟨rfl, h1, h2⟩
        · exact h.elim
    · rintro e W1 ⟨hv, hr1, hi1⟩
      exact ⟨hv, .inl ⟨hr1, fun W2 hg => hi1.keptL hg hr1.1 (by omega)⟩⟩
end Go.Proofs.Ytedidfjonkepoaa
