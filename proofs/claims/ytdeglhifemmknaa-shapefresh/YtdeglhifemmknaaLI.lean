
/- ShapeFresh: the walk. -/

import Derived.Test.YtdeglhifemmknaaLH

import Derived.Deep.CutBlock

namespace Go.Proofs.Ytdeglhifemmknaa

open Go.RowKit

set_option linter.unusedVariables false

theorem Lg.outer {V : World} {M : Nat} {go : Option Addr} {k gc : Nat} {f : Nat → List Int} {gs : List Value} (h : Lg V M go k gc f gs) {b off : Nat} (e : go = some ⟨b, off, none⟩) : M ≤ b ∧ b < V.heap.size := h.own.lt b (by rw [e]; rfl)
/-- The book takes what a call answered. -/
theorem take_ans {w V W : World} {bk : Nat} {so : Option Addr} {m sc : Nat} {sz : Int} {vs : List Value} {lo mo : Option Addr} {n lc mc : Nat} {f : Nat → List Int} {gs ms : List Value} (hw : Below w.heap.size w V) (h : Bq V (fun g => w.heap.size ≤ g ∧ g < V.heap.size) bk so m sc sz vs) (A : Ans V W lo mo n lc mc f gs ms) (hm : m ≤ 1000000000000) :
    Calls Try.prog 8 #[.pointer (some ⟨bk, 0, none⟩), .slice lo n lc] W fun e w' => e = .returned (.tuple #[]) ∧ (∃ so' m' sc' sz' vs', Bq w' (fun g => w.heap.size ≤ g ∧ g < w'.heap.size) bk so' m' sc' sz' vs' ∧ m' ≤ m + 40) ∧ Below w.heap.size w w' := by
  have hB := h.below A.bel
  have sA := A.small
  obtain ⟨qa, qn, qc, _, L⟩ := A.got.lsq (by omega)
  refine (takeQ_any bk so m sc sz vs _ _ lo n lc qa qn qc W hB L (fun g hr hs => by omega) (fun b off e hs => by have := (A.got.outer e).1; omega) hm).mono ?_
  rintro e w' ⟨rfl, ⟨so', m', sc', sz', vs', hB', hm'⟩, hC⟩
  refine ⟨rfl, ⟨so', m', sc', sz', vs', (hB'.mono fun g hg => ?_ : Bq w' (fun g => w.heap.size ≤ g) bk so' m' sc' sz' vs').trim, by omega⟩, ?_⟩
  · have h1 := hw.size
    have h2 := A.bel.size
    rcases hg with hg | hg | hg
    · exact hg.1
    · omega
    · omega
  · exact hC.below (hw.trans (A.bel.mono hw.size)) (fun g hg => by
      have h1 := hw.size
      rcases hg with hg | hg
      · exact hg.1
      · omega) (Nat.le_refl _)
theorem box2L {W : World} {g : Nat} {x y : Value} {t : TypeId} (h : W.heap[g]? = some (.cells #[x, y] t (0, 0))) : (W.cell? ⟨g, 0, none⟩ = some x ∧ W.cell? ⟨g, 1, none⟩ = some y) ∧ ∀ j, W.frozen? ⟨g, j, none⟩ = false :=
  ⟨⟨(cell_of_row W g 0 _ t (0, 0) h).trans rfl, (cell_of_row W g 1 _ t (0, 0) h).trans rfl⟩, fun j => frozen_of_row W g j _ t h⟩
/-- A book that is made. -/
theorem Bq.made {W : World} {S : Nat → Prop} (hS : S W.heap.size) : Bq (W.alloc (.cells #[.slice none 0 0, .int .i64 0] 35)) S W.heap.size none 0 0 0 [] := by
  obtain ⟨⟨c0, c1⟩, cf⟩ := box2L (allocNewL W (.cells #[.slice none 0 0, .int .i64 0] 35))
  exact ⟨c0, c1, cf 0, cf 1, rfl, World.ownsRow_nil _ _ _ _, ⟨fun i v h => by simp at h, fun i j v u g h => by simp at h⟩, hS, fun g e => (by cases e), fun i v g h => by simp at h⟩

/-- While the lists of one answer go over to those that are kept. -/
structure Sv (Vs M : Nat) (W V : World) (i1 i2 n1 n2 : Nat) (go mo : Option Addr) (gc mc : Nat) (f1 f2 : Nat → List Int) (gs ms ls ws : List Value) : Prop where
  chg : Chg (fun g => g < Vs ∨ W.heap.size ≤ g) W V
  got : Lg V M go n1 gc f1 gs
  want : Lg V M mo n2 mc f2 ms
  no : ∀ g, (Value.slice go n1 gc).ownBlock = some g → (Value.slice mo n2 mc).ownBlock ≠ some g
  og : ∀ g, (Value.slice go n1 gc).ownBlock = some g → g < Vs ∨ W.heap.size ≤ g
  ow : ∀ g, (Value.slice mo n2 mc).ownBlock = some g → g < Vs ∨ W.heap.size ≤ g
  rg : ∀ (e : Nat) (v : Value) (g : Nat), gs[e]? = some v → v.ownBlock = some g → g < Vs ∨ ∃ i' u, i' < i1 ∧ ls[i']? = some u ∧ u.ownBlock = some g
  rm : ∀ (e : Nat) (v : Value) (g : Nat), ms[e]? = some v → v.ownBlock = some g → g < Vs ∨ ∃ i' u, i' < i2 ∧ ws[i']? = some u ∧ u.ownBlock = some g
section
variable {Vs M i1 i2 n1 n2 gc mc : Nat} {W V : World} {go mo : Option Addr} {f1 f2 : Nat → List Int} {gs ms ls ws : List Value}

theorem Sv.skip (h : Sv Vs M W V i1 i2 n1 n2 go mo gc mc f1 f2 gs ms ls ws) : Sv Vs M W V (i1 + 1) (i2 + 1) n1 n2 go mo gc mc f1 f2 gs ms ls ws :=
  ⟨h.chg, h.got, h.want, h.no, h.og, h.ow, fun e v g he hv => (h.rg e v g he hv).imp id (fun ⟨i', u, h1, h2, h3⟩ => ⟨i', u, by omega, h2, h3⟩), fun e v g he hv => (h.rm e v g he hv).imp id (fun ⟨i', u, h1, h2, h3⟩ => ⟨i', u, by omega, h2, h3⟩)⟩
theorem Sv.low (h : Sv Vs M W V i1 i2 n1 n2 go mo gc mc f1 f2 gs ms ls ws) {p o : Nat} (hp : p < M) (hM : M ≤ Vs) (v : Value) : Sv Vs M W (V.setCell ⟨p, o, none⟩ v) i1 i2 n1 n2 go mo gc mc f1 f2 gs ms ls ws :=
  ⟨h.chg.trans ((Chg.of_grown (set1L V p o v)).mono fun g _ e => .inl (by have := Option.some.inj e; omega)), h.got.low hp v, h.want.low hp v, h.no, h.og, h.ow, h.rg, h.rm⟩
theorem Sv.start {w0 : World} {lo wo : Option Addr} {m lc wc : Nat} {f' : Nat → List Int} (LG : Lg w0 M go n1 gc f1 gs) (LM : Lg w0 M mo n1 mc f1 ms) (no : ∀ g, (Value.slice go n1 gc).ownBlock = some g → (Value.slice mo n1 mc).ownBlock ≠ some g) (A : Ans w0 W lo wo m lc wc f' ls ws) : Sv w0.heap.size M W W 0 0 n1 n1 go mo gc mc f1 f1 gs ms ls ws :=
  ⟨Chg.refl _ _, LG.below A.bel, LM.below A.bel, no, fun g hg => .inl (LG.own.lt g hg).2, fun g hg => .inl (LM.own.lt g hg).2, fun e v g he hv => .inl (LG.lt e v g he hv), fun e v g he hv => .inl (LM.lt e v g he hv)⟩
theorem Sv.pushG {A W9 : World} {lo a go' : Option Addr} {m lc n c gc' : Nat} {f' : Nat → List Int} (h : Sv Vs M W V i1 i2 n1 n2 go mo gc mc f1 f2 gs ms ls ws) (hl : Lg W Vs lo m lc f' ls) (hi : ls[i1]? = some (.slice a n c)) (hM : M ≤ Vs) (bA : Below V.heap.size V A)
    (r9 : W9.ownsRow M 28 1 (.slice go' (n1 + 1) gc') (n1 + 1) (gs ++ [.slice a n c])) (g9 : A.grownBy W9 (Value.slice go n1 gc).ownBlock) (p9 : (Value.slice go' (n1 + 1) gc').ownBlock = (Value.slice go n1 gc).ownBlock ∨ (Value.slice go' (n1 + 1) gc').ownBlock = some A.heap.size) :
    Sv Vs M W W9 (i1 + 1) i2 (n1 + 1) n2 go' mo gc' mc (fun j => if j = n1 then f' i1 else f1 j) f2 (gs ++ [.slice a n c]) ms ls ws := by
  have hlV := hl.chg h.chg (fun g hg => hg)
  have hil := (List.getElem?_eq_some_iff.1 hi).1
  have hll := hl.len
  obtain ⟨a', n', c', h1, h2⟩ := hlV.rows i1 (by omega)
  rw [hi] at h1
  cases h1
  have hne : ∀ (e : Nat) (v : Value) (g : Nat), gs[e]? = some v → v.ownBlock = some g → (Value.slice a n c).ownBlock ≠ some g := fun e v g he hv hx => by
    rcases h.rg e v g he hv with hlt | ⟨i', u, hi', hu, hg⟩
    · have := (h2.geL hx).1; omega
    · have := hl.apart i' i1 u _ g hu hi hg hx; omega
  have got' := h.got.push3 hne (h2.mono hM) bA r9 g9
  have oA := (h.got.below bA).own
  have want' := (h.want.below bA).past oA (fun g hg e => h.no g e hg) g9
  have sV := h.chg.size
  have sA := bA.size
  have chg' : Chg (fun g => g < Vs ∨ W.heap.size ≤ g) W W9 := h.chg.trans ((Chg.of_below bA (Nat.le_refl _) _).trans ((Chg.of_grown g9).mono fun g _ hg => h.og g hg))
  have og' : ∀ g, (Value.slice go' (n1 + 1) gc').ownBlock = some g → g < Vs ∨ W.heap.size ≤ g := fun g hg => by
    rcases p9 with p | p
    · rw [p] at hg; exact h.og g hg
    · rw [p] at hg; cases hg; exact .inr (by omega)
  have no' : ∀ g, (Value.slice go' (n1 + 1) gc').ownBlock = some g → (Value.slice mo n2 mc).ownBlock ≠ some g := fun g hg e => by
    rcases p9 with p | p
    · rw [p] at hg; exact h.no g hg e
    · rw [p] at hg
      cases hg
      have := (h.want.own.lt _ e).2
      omega
  have rg' : ∀ (e : Nat) (v : Value) (g : Nat), (gs ++ [.slice a n c])[e]? = some v → v.ownBlock = some g → g < Vs ∨ ∃ i' u, i' < i1 + 1 ∧ ls[i']? = some u ∧ u.ownBlock = some g := fun e v g he hv => by
    rcases last_of he with ⟨he, _⟩ | ⟨_, rfl⟩
    · exact (h.rg e v g he hv).imp id (fun ⟨i', u, h1, h2, h3⟩ => ⟨i', u, by omega, h2, h3⟩)
    · exact .inr ⟨i1, _, by omega, hi, hv⟩
  exact ⟨chg', got', want', no', og', h.ow, rg', h.rm⟩
theorem Sv.pushW {A W9 : World} {lo a go' : Option Addr} {m lc n c gc' : Nat} {f' : Nat → List Int} (h : Sv Vs M W V i1 i2 n1 n2 go mo gc mc f1 f2 gs ms ls ws) (hl : Lg W Vs lo m lc f' ws) (hi : ws[i2]? = some (.slice a n c)) (hM : M ≤ Vs) (bA : Below V.heap.size V A)
    (r9 : W9.ownsRow M 28 1 (.slice go' (n2 + 1) gc') (n2 + 1) (ms ++ [.slice a n c])) (g9 : A.grownBy W9 (Value.slice mo n2 mc).ownBlock) (p9 : (Value.slice go' (n2 + 1) gc').ownBlock = (Value.slice mo n2 mc).ownBlock ∨ (Value.slice go' (n2 + 1) gc').ownBlock = some A.heap.size) :
    Sv Vs M W W9 i1 (i2 + 1) n1 (n2 + 1) go go' gc gc' f1 (fun j => if j = n2 then f' i2 else f2 j) gs (ms ++ [.slice a n c]) ls ws := by
  have hlV := hl.chg h.chg (fun g hg => hg)
  have hil := (List.getElem?_eq_some_iff.1 hi).1
  have hll := hl.len
  obtain ⟨a', n', c', h1, h2⟩ := hlV.rows i2 (by omega)
  rw [hi] at h1
  cases h1
  have hne : ∀ (e : Nat) (v : Value) (g : Nat), ms[e]? = some v → v.ownBlock = some g → (Value.slice a n c).ownBlock ≠ some g := fun e v g he hv hx => by
    rcases h.rm e v g he hv with hlt | ⟨i', u, hi', hu, hg⟩
    · have := (h2.geL hx).1; omega
    · have := hl.apart i' i2 u _ g hu hi hg hx; omega
  have got' := h.want.push3 hne (h2.mono hM) bA r9 g9
  have oA := (h.want.below bA).own
  have want' := (h.got.below bA).past oA (fun g hg e => h.no g hg e) g9
  have sV := h.chg.size
  have sA := bA.size
  have chg' : Chg (fun g => g < Vs ∨ W.heap.size ≤ g) W W9 := h.chg.trans ((Chg.of_below bA (Nat.le_refl _) _).trans ((Chg.of_grown g9).mono fun g _ hg => h.ow g hg))
  have og' : ∀ g, (Value.slice go' (n2 + 1) gc').ownBlock = some g → g < Vs ∨ W.heap.size ≤ g := fun g hg => by
    rcases p9 with p | p
    · rw [p] at hg; exact h.ow g hg
    · rw [p] at hg; cases hg; exact .inr (by omega)
  have no' : ∀ g, (Value.slice go' (n2 + 1) gc').ownBlock = some g → (Value.slice go n1 gc).ownBlock ≠ some g := fun g hg e => by
    rcases p9 with p | p
    · rw [p] at hg; exact h.no g e hg
    · rw [p] at hg
      cases hg
      have := (h.got.own.lt _ e).2
      omega
  have rg' : ∀ (e : Nat) (v : Value) (g : Nat), (ms ++ [.slice a n c])[e]? = some v → v.ownBlock = some g → g < Vs ∨ ∃ i' u, i' < i2 + 1 ∧ ws[i']? = some u ∧ u.ownBlock = some g := fun e v g he hv => by
    rcases last_of he with ⟨he, _⟩ | ⟨_, rfl⟩
    · exact (h.rm e v g he hv).imp id (fun ⟨i', u, h1, h2, h3⟩ => ⟨i', u, by omega, h2, h3⟩)
    · exact .inr ⟨i2, _, by omega, hi, hv⟩
  exact ⟨chg', want', got', fun g hg e => no' g e hg, h.og, og', h.rg, rg'⟩
end

/-- The box of the book that is only counted, and the first book: while lists go over. -/
structure Sb (w : World) (q : Nat) (V : World) (bb : Nat) (so : Option Addr) (m sc : Nat) (sz : Int) (vs : List Value) : Prop where
  bel : Below w.heap.size w V
  lt : q + 1 ≤ V.heap.size
  wq : w.heap.size ≤ q
  cx : ∃ x, V.cell? ⟨q, 1, none⟩ = some (.int .i64 x)
  fx : V.frozen? ⟨q, 1, none⟩ = false
  bq : Bq V (fun g => w.heap.size ≤ g ∧ g < q) bb so m sc sz vs
theorem Sb.chg {w V V' : World} {q bb m sc : Nat} {so : Option Addr} {sz : Int} {vs : List Value} {R : Nat → Prop} (h : Sb w q V bb so m sc sz vs) (k : Chg R V V') (hR : ∀ g, R g → q + 1 ≤ g) : Sb w q V' bb so m sc sz vs := by
  have e := k.block q h.lt (fun hr => by have := hR q hr; omega)
  obtain ⟨x, cx⟩ := h.cx
  exact ⟨k.below h.bel (fun g hg => by have := hR g hg; have := h.wq; omega) (Nat.le_refl _), Nat.le_trans h.lt k.size, h.wq, ⟨x, (World.cell?_of_block (a := ⟨q, 1, none⟩) e).trans cx⟩, (World.frozen?_of_block (a := ⟨q, 1, none⟩) e).trans h.fx, h.bq.chg k fun g hg hr => by have := hR g hr; omega⟩
theorem Sb.set {w V : World} {q bb m sc : Nat} {so : Option Addr} {sz : Int} {vs : List Value} (h : Sb w q V bb so m sc sz vs) (y : Int) : Sb w q (V.setCell ⟨q, 1, none⟩ (.int .i64 y)) bb so m sc sz vs := by
  have k : Chg (fun g => g = q) V (V.setCell ⟨q, 1, none⟩ (.int .i64 y)) := (Chg.of_grown (set1L V q 1 _)).mono fun g _ e => (Option.some.inj e).symm
  obtain ⟨x, cx⟩ := h.cx
  exact ⟨k.below h.bel (fun g e => by have := h.wq; omega) (Nat.le_refl _), Nat.le_trans h.lt k.size, h.wq, ⟨y, World.cell?_setCell_same' _ _ _ (by rw [cx]; rfl)⟩, by rw [World.frozen?_setCell]; exact h.fx, h.bq.chg k fun g hg e => by omega⟩
theorem Lg.get {V : World} {M b n lc : Nat} {f : Nat → List Int} {ls : List Value} {i : Nat} {v : Value} (h : Lg V M (some ⟨b, 0, none⟩) n lc f ls) (e : ls[i]? = some v) : V.cell? ⟨b, i, none⟩ = some v := by
  have hi := (List.getElem?_eq_some_iff.1 e).1
  have := h.len
  rw [h.own.cellAt i (by omega)]
  exact e
theorem Lg.at {V : World} {M n lc : Nat} {lo : Option Addr} {f : Nat → List Int} {ls : List Value} {i : Nat} (h : Lg V M lo n lc f ls) (hi : i < n) : ∃ b a k c, lo = some ⟨b, 0, none⟩ ∧ ls[i]? = some (.slice a k c) ∧ V.cell? ⟨b, i, none⟩ = some (.slice a k c) ∧ Fr V M a k c (f i) := by
  obtain ⟨a, k, c, e, F⟩ := h.rows i hi
  rcases h.own.2 with ⟨_, e0⟩ | ⟨g, cap, cur, e1, _⟩
  · omega
  · injection e1 with e2
    subst e2
    exact ⟨g, a, k, c, rfl, e, h.get e, F⟩

set_option maxHeartbeats 16000000 in
set_option maxRecDepth 100000 in
theorem freshW (b off len cap : Nat) (q : Nat → OpQ) (w : World) (hb : b < w.heap.size) (hlen : len ≤ cap) (hcap : cap ≤ 9223372036854775807)
    (hc : ∀ i, i < len → w.cell? ⟨b, off + i * 5, none⟩ = some (.int .i64 (q i).K) ∧ w.cell? ⟨b, off + i * 5 + 1, none⟩ = some (.slice (q i).so (q i).sn (q i).sc) ∧ w.cell? ⟨b, off + i * 5 + 2, none⟩ = some (.slice (q i).ro (q i).rn (q i).rc) ∧ w.cell? ⟨b, off + i * 5 + 3, none⟩ = some (.int .i64 (q i).N) ∧ w.cell? ⟨b, off + i * 5 + 4, none⟩ = some (.slice (q i).lo (q i).n (q i).cap)) (hr : ∀ i, i < len → OkQ w (q i)) :
    Calls Try.prog 3 #[.slice (some ⟨b, off, none⟩) len cap] w fun e w' => e = .returned (.bool true) ∧ Below w.heap.size w w' := by
  have hcB := fun V => begun_any V
  have HC : Hid (∀ i, i < len → w.cell? ⟨b, off + i * 5, none⟩ = some (.int .i64 (q i).K) ∧ w.cell? ⟨b, off + i * 5 + 1, none⟩ = some (.slice (q i).so (q i).sn (q i).sc) ∧ w.cell? ⟨b, off + i * 5 + 2, none⟩ = some (.slice (q i).ro (q i).rn (q i).rc) ∧ w.cell? ⟨b, off + i * 5 + 3, none⟩ = some (.int .i64 (q i).N) ∧ w.cell? ⟨b, off + i * 5 + 4, none⟩ = some (.slice (q i).lo (q i).n (q i).cap)) := hc
  have HR : Hid (∀ i, i < len → OkQ w (q i)) := hr
  clear hc hr
  go_enter Try.func3, Try.ntmps3
  go_upto_block 0 with (go_at_call 4; (with_reducible refine (hcB _).mono ?_); rintro e w1 ⟨rfl, b1⟩)
  go_cut [4] from 24 to 39 (fun s V => ∃ k : Nat, k ≤ len ∧ s = .int .i64 (k : Nat) ∧ k ≤ 41943 ∧ Below w.heap.size w V)
  case first =>
    have zw := allocNewL w1 (.cells #[.int .i64 0] 26)
    have kw := box_belowL w1 (.cells #[.int .i64 0] 26)
    have b3 := b1.trans (kw.mono b1.size)
    go_wp2_with fail
    go_loopw [4] (fun i V => ∃ (k : Nat) (x : Int), k ≤ len ∧ i = .int .i64 (k : Nat) ∧ 0 ≤ x ∧ x ≤ 4194304 ∧ (k : Int) * 100 ≤ x ∧ V.heap[w1.heap.size]? = some (.cells #[.int .i64 x] 26 (0, 0)) ∧ Below w.heap.size w V) (fun i _ => len - (intOf i).toNat)
    case atStart => exact ⟨0, 0, Nat.zero_le _, rfl, by omega, by omega, by omega, zw, b3⟩
    case round =>
      obtain ⟨k, x, hk, rfl, hx0, hx1, hkx, hwk, BV⟩ := hrel
      clear b3 zw kw
      by_cases hlt : k < len
      · have hck := HC.out k hlt
        have Ok := HR.out k hlt
        generalize q k = x1 at *
        obtain ⟨K, so, sn, sc, ro, rn, rc, N, lo, n, cap1⟩ := x1
        obtain ⟨h0, h1, h2, h3, h4⟩ := hck
        obtain ⟨⟨S, hS⟩, sS, ⟨A, hA⟩, sA, ⟨Z, hZ⟩, sZ, N1, N2⟩ := Ok
        dsimp only at h0 h1 h2 h3 h4 hS sS hA sA hZ sZ N1 N2
        rw [← BV.cell (p := ⟨b, _, none⟩) hb] at h0 h1 h2 h3 h4
        have hz := opsz_any K N so ro lo sn sc rn rc n cap1 S A Z wr (hS.below BV (Nat.le_refl _)) (hA.below BV (Nat.le_refl _)) (hZ.below BV (Nat.le_refl _))
        generalize szK Z (sn + rn) n = zz at *
        have hwl := (Array.getElem?_eq_some_iff.1 hwk).1
        have HW : Hid (wr.heap[w1.heap.size]? = some (.cells #[.int .i64 x] 26 (0, 0))) := hwk
        have i0 : (0 : Int) ≤ (k : Int) := by omega
        have i1 : (k : Int) < (len : Int) := by omega
        clear hwk hS sS hA sA hZ sZ
        by_cases hov : 4194304 < x + 100 + (zz : Int)
        · go_wp2_with (first
            | (go_at_call 6; (with_reducible refine hz.mono ?_); rintro e W1 ⟨rfl, kz, hzb⟩; have zk1 := (kz.block w1.heap.size hwl).trans HW.out; have c1 : W1.cell? ⟨w1.heap.size, 0, none⟩ = some (.int .i64 x) := (cell_of_row W1 _ 0 _ 26 (0, 0) zk1).trans rfl; have f1 : W1.frozen? ⟨w1.heap.size, 0, none⟩ = false := frozen_of_row W1 _ 0 _ 26 zk1; have cO := over_any w1.heap.size x (zz : Int) W1 c1 f1 hx0 hx1 (by omega) (by omega); rw [show decide (4194304 < x + 100 + (zz : Int)) = true from by simpa using hov] at cO)
            | (go_at_call 5; (with_reducible refine cO.mono ?_); rintro e W2 ⟨rfl, hW2⟩))
          go_meet
          case rel => exact ⟨k, hk, rfl, by omega, (BV.trans (kz.mono BV.size)).setCell (p := ⟨w1.heap.size, 0, none⟩) (by have := b1.size; show w.heap.size ≤ w1.heap.size; omega) _⟩
        · go_wp2_with (first
            | (go_at_call 6; (with_reducible refine hz.mono ?_); rintro e W1 ⟨rfl, kz, hzb⟩; have zk1 := (kz.block w1.heap.size hwl).trans HW.out; have c1 : W1.cell? ⟨w1.heap.size, 0, none⟩ = some (.int .i64 x) := (cell_of_row W1 _ 0 _ 26 (0, 0) zk1).trans rfl; have f1 : W1.frozen? ⟨w1.heap.size, 0, none⟩ = false := frozen_of_row W1 _ 0 _ 26 zk1; have cO := over_any w1.heap.size x (zz : Int) W1 c1 f1 hx0 hx1 (by omega) (by omega); rw [show decide (4194304 < x + 100 + (zz : Int)) = false from by simpa using hov] at cO)
            | (go_at_call 5; (with_reducible refine cO.mono ?_); rintro e W2 ⟨rfl, hW2⟩))
          go_roundw
          case rel => exact ⟨k + 1, x + 100 + (zz : Int), by omega, by go_num, by omega, by omega, by omega, heap_setCell_same W1 w1.heap.size 0 _ _ _ zk1, (BV.trans (kz.mono BV.size)).setCell (p := ⟨w1.heap.size, 0, none⟩) (by have := b1.size; show w.heap.size ≤ w1.heap.size; omega) _⟩
          case measure => simp [intOf]; omega
      · obtain rfl : k = len := by omega
        have i1 : ¬ ((k : Int) < (k : Int)) := by omega
        go_wp2
        go_meet
        case rel => exact ⟨k, Nat.le_refl _, rfl, by omega, BV⟩
  case rest =>
  obtain ⟨W1, hW1⟩ : ∃ W, W = wc := ⟨_, rfl⟩
  subst hW1
  obtain ⟨k, hk, rfl, hk2, B1⟩ := hcut
  clear b1
  have kc : (k : Int) ≤ (cap : Int) := by omega
  have HKL : Hid (k ≤ len) := hk
  have Q0 : Bq (W1.alloc (.cells #[.slice none 0 0, .int .i64 0] 35)) (fun g => w.heap.size ≤ g ∧ g < (W1.alloc (.cells #[.slice none 0 0, .int .i64 0] 35)).heap.size) W1.heap.size none 0 0 0 [] := Bq.made ⟨B1.size, by simp⟩
  have B2 := B1.trans ((box_belowL W1 (.cells #[.slice none 0 0, .int .i64 0] 35)).mono B1.size)
  go_upto_block 2 with fail
  go_cut [6, 7, 8, 9] from 45 to 72 (fun s6 s7 s8 s9 V => Below w.heap.size w V ∧ ∃ so m sc sz vs, m ≤ 40 * 41943 ∧ Bq V (fun g => w.heap.size ≤ g ∧ g < V.heap.size) W1.heap.size so m sc sz vs)
  case first =>
    generalize W1.alloc (.cells #[.slice none 0 0, .int .i64 0] 35) = W2 at *
    go_wp2_with fail
    go_loopw [6] (fun s V => ∃ j : Nat, j ≤ k ∧ s = .int .i64 (j : Nat) ∧ Below w.heap.size w V ∧ ∃ so m sc sz vs, m ≤ 40 * j ∧ Bq V (fun g => w.heap.size ≤ g ∧ g < V.heap.size) W1.heap.size so m sc sz vs) (fun s _ => k - (intOf s).toNat)
    case atStart => exact ⟨0, Nat.zero_le _, rfl, B2, none, 0, 0, 0, [], by omega, Q0⟩
    case round =>
      obtain ⟨j, hj, rfl, BV, so1, m1, sc1, sz1, vs1, hm1, QV⟩ := hrel
      clear Q0 B2
      by_cases hlt : j < k
      · have hck := HC.out j (by have := HKL.out; omega)
        have Ok := HR.out j (by have := HKL.out; omega)
        generalize q j = x1 at *
        obtain ⟨K, so, sn, sc, ro, rn, rc, N, lo, n, cap1⟩ := x1
        obtain ⟨h0, h1, h2, h3, h4⟩ := hck
        obtain ⟨⟨S, hS⟩, sS, ⟨A, hA⟩, sA, ⟨Z, hZ⟩, sZ, N1, N2⟩ := Ok
        dsimp only at h0 h1 h2 h3 h4 hS sS hA sA hZ sZ N1 N2
        rw [← BV.cell (p := ⟨b, _, none⟩) hb] at h0 h1 h2 h3 h4
        have hL := lists_any K N so ro lo sn sc rn rc n cap1 S A Z wr (hS.below BV (Nat.le_refl _)) sS (hA.below BV (Nat.le_refl _)) sA (hZ.below BV (Nat.le_refl _)) N1 N2
        clear hS sS hA sA hZ sZ
        have i0 : (0 : Int) ≤ (j : Int) := by omega
        have i1 : (j : Int) < (k : Int) := by omega
        have HLT : Hid (j < k) := hlt
        go_wp2_with (first
          | (go_at_call 7; (with_reducible refine hL.mono ?_); rintro e W3 ⟨lo', mo', m', lc', mc', f, gs, ms, rfl, AN⟩; have cT := take_ans BV QV AN (by omega))
          | (go_at_call 8; (with_reducible refine cT.mono ?_); rintro e W4 ⟨rfl, ⟨so2, m2, sc2, sz2, vs2, Q4, hm4⟩, B4⟩; have cW := wholeQ_any _ _ _ _ _ _ _ _ Q4 (by omega))
          | (go_at_call 9; (with_reducible refine cW.mono ?_); rintro e V5 ⟨rfl, hV⟩; rw [hV]; clear hV V5))
        all_goals
          go_roundw
          case rel => exact ⟨j + 1, by have := HLT.out; omega, by go_num, B4, so2, m2, sc2, sz2, vs2, by omega, Q4⟩
          case measure => have := HLT.out; simp [intOf]; omega
      · obtain rfl : j = k := by omega
        have i1 : ¬ ((j : Int) < (j : Int)) := by omega
        go_wp2
        go_meet
        case rel => exact ⟨BV, so1, m1, sc1, sz1, vs1, by omega, QV⟩
  case rest =>
  obtain ⟨W3, hW3⟩ : ∃ W, W = wc := ⟨_, rfl⟩
  subst hW3
  obtain ⟨B3, so3, m3, sc3, sz3, vs3, hm3, Q3⟩ := hcut
  clear Q0 B2
  have HQ3 := (show Hid _ from Q3)
  have HB1 := (show Hid _ from B1)
  have Q4 : Bq (W3.alloc (.cells #[.slice none 0 0, .int .i64 0] 35)) (fun g => w.heap.size ≤ g ∧ g < W3.heap.size) W1.heap.size so3 m3 sc3 sz3 vs3 := Q3.below (box_belowL W3 (.cells #[.slice none 0 0, .int .i64 0] 35))
  have B4 := B3.trans ((box_belowL W3 (.cells #[.slice none 0 0, .int .i64 0] 35)).mono B3.size)
  have hs4 : (W3.alloc (.cells #[.slice none 0 0, .int .i64 0] 35)).heap.size = W3.heap.size + 1 := World.size_alloc _ _
  have c4 := (box2L (allocNewL W3 (.cells #[.slice none 0 0, .int .i64 0] 35))).1.2
  have f4 := (box2L (allocNewL W3 (.cells #[.slice none 0 0, .int .i64 0] 35))).2 1
  have B3s := B3.size
  clear Q3 B1 kc
  go_upto_block 4 with fail
  go_cut [11, 12, 13, 14, 15, 16, 17] from 75 to 122 (fun s11 s12 _ _ _ _ _ V => Below w.heap.size w V ∧ ∃ go gc mo mc n f gs ms, s11 = .slice go n gc ∧ s12 = .slice mo n mc ∧ n ≤ 40 * 83886 ∧ W3.heap.size + 1 ≤ V.heap.size ∧ Lg V (W3.heap.size + 1) go n gc f gs ∧ Lg V (W3.heap.size + 1) mo n mc f ms ∧ Bq V (fun g => w.heap.size ≤ g ∧ g < W3.heap.size) W1.heap.size so3 m3 sc3 sz3 vs3)
  case first =>
    generalize W3.alloc (.cells #[.slice none 0 0, .int .i64 0] 35) = W4 at *
    go_wp2_with fail
    have SB4 : Sb w W3.heap.size W4 W1.heap.size so3 m3 sc3 sz3 vs3 := ⟨B4, by omega, B3s, ⟨_, c4⟩, f4, Q4⟩
    clear Q4 B4 c4 f4 hs4
    go_loopw [11, 12, 13] (fun s11 s12 s13 V => ∃ j : Nat, j ≤ 2 * k ∧ s13 = .int .i64 (j : Nat) ∧ Sb w W3.heap.size V W1.heap.size so3 m3 sc3 sz3 vs3 ∧ ∃ go gc mo mc n f gs ms, s11 = .slice go n gc ∧ s12 = .slice mo n mc ∧ n ≤ 40 * j ∧ Lg V (W3.heap.size + 1) go n gc f gs ∧ Lg V (W3.heap.size + 1) mo n mc f ms ∧ (∀ g, (Value.slice go n gc).ownBlock = some g → (Value.slice mo n mc).ownBlock ≠ some g)) (fun _ _ s _ => 2 * k - (intOf s).toNat)
    case atStart => exact ⟨0, Nat.zero_le _, rfl, SB4, none, 0, none, 0, 0, fun _ => [], [], [], rfl, rfl, by omega, Lg.nil _ _ _, Lg.nil _ _ _, fun g e => (by cases e)⟩
    case round =>
      obtain ⟨j, hj, rfl, SB, go, gc, mo, mc, n9, f9, gs9, ms9, rfl, rfl, hn9, LG, LM, no9⟩ := hrel
      clear SB4
      by_cases hlt : j < 2 * k
      · obtain ⟨WR, hWR⟩ : ∃ W, W = wr := ⟨_, rfl⟩
        subst hWR
        obtain ⟨h, hh, hhk⟩ : ∃ h : Nat, (j : Int) / 2 = (h : Int) ∧ h < k := ⟨j / 2, by omega, by omega⟩
        have hck := HC.out h (by have := HKL.out; omega)
        have Ok := HR.out h (by have := HKL.out; omega)
        generalize q h = x1 at *
        obtain ⟨K, so, sn, sc, ro, rn, rc, N, lo, n, cap1⟩ := x1
        obtain ⟨h0, h1, h2, h3, h4⟩ := hck
        obtain ⟨⟨S, hS⟩, sS, ⟨A, hA⟩, sA, ⟨Z, hZ⟩, sZ, N1, N2⟩ := Ok
        dsimp only at h0 h1 h2 h3 h4 hS sS hA sA hZ sZ N1 N2
        have BV := SB.bel
        rw [← BV.cell (p := ⟨b, _, none⟩) hb] at h0 h1 h2 h3 h4
        have hL := lists_any K N so ro lo sn sc rn rc n cap1 S A Z WR (hS.below BV (Nat.le_refl _)) sS (hA.below BV (Nat.le_refl _)) sA (hZ.below BV (Nat.le_refl _)) N1 N2
        clear hS sS hA sA hZ sZ BV
        have i0 : (0 : Int) ≤ (j : Int) := by omega
        have i1 : (j : Int) < 2 * (k : Int) := by omega
        have i2 : (0 : Int) ≤ (h : Int) := by omega
        have i3 : (h : Int) < (k : Int) := by omega
        have i4 : IntKind.i64.wrap ((j : Int) / 2) = (h : Int) := by rw [hh, IntKind.wrap_i64]; omega
        have HLT : Hid (j < 2 * k) := hlt
        have HHK : Hid (n9 ≤ 40 * j ∧ j < 2 * k ∧ k ≤ 41943) := ⟨hn9, hlt, hk2⟩
        have HSL : Hid (Sb w W3.heap.size WR W1.heap.size so3 m3 sc3 sz3 vs3 ∧ Lg WR (W3.heap.size + 1) go n9 gc f9 gs9 ∧ Lg WR (W3.heap.size + 1) mo n9 mc f9 ms9 ∧ (∀ g, (Value.slice go n9 gc).ownBlock = some g → (Value.slice mo n9 mc).ownBlock ≠ some g)) := ⟨SB, LG, LM, no9⟩
        clear SB LG LM no9 hn9
        go_wp2_with (go_at_call 7; (with_reducible refine hL.mono ?_); rintro e W5 ⟨lo', mo', m', lc', mc', f, ls, ws, rfl, AN⟩)
        clear h0 h1 h2 h3 h4 hL i0 i1 i2 i3 i4 hh
        have SB5 : Sb w W3.heap.size W5 W1.heap.size so3 m3 sc3 sz3 vs3 := HSL.out.1.chg (Chg.of_below AN.bel (Nat.le_refl _) (fun _ => False)) (fun g e => e.elim)
        have SV0 := Sv.start HSL.out.2.1 HSL.out.2.2.1 HSL.out.2.2.2 AN
        have HM : Hid (W3.heap.size + 1 ≤ WR.heap.size) := HSL.out.1.lt
        have HAN := (show Hid _ from AN)
        clear AN HSL
        go_loopw [11, 12, 17] (fun s11 s12 s17 V => ∃ i : Nat, i ≤ m' ∧ s17 = .int .i64 (i : Nat) ∧ Sb w W3.heap.size V W1.heap.size so3 m3 sc3 sz3 vs3 ∧ ∃ go1 gc1 mo1 mc1 n1 f1 gs1 ms1, s11 = .slice go1 n1 gc1 ∧ s12 = .slice mo1 n1 mc1 ∧ n1 ≤ n9 + i ∧ Sv WR.heap.size (W3.heap.size + 1) W5 V i i n1 n1 go1 mo1 gc1 mc1 f1 f1 gs1 ms1 ls ws) (fun _ _ s _ => m' - (intOf s).toNat)
        case atStart => exact ⟨0, Nat.zero_le _, rfl, SB5, go, gc, mo, mc, n9, f9, gs9, ms9, rfl, rfl, by omega, SV0⟩
        case round =>
          obtain ⟨i, hi, rfl, SB1, go1, gc1, mo1, mc1, n1, f1, gs1, ms1, rfl, rfl, hn1, SV⟩ := hrel
          clear SB5 SV0
          by_cases hlt2 : i < m'
          · obtain ⟨bl, a1, k1, c1, hlo, e1, r1, F1⟩ := (HAN.out.got.chg SV.chg (fun g hg => hg)).at hlt2
            obtain ⟨bm, a2, k2, c2, hmo, e2, _, _⟩ := (HAN.out.want.chg SV.chg (fun g hg => hg)).at hlt2
            subst hlo
            subst hmo
            obtain ⟨x, cx⟩ := SB1.cx
            have fx := SB1.fx
            have hk1 : k1 * 8 ≤ 140737488351232 := F1.rd.room
            have HH : Hid (Sb w W3.heap.size wr W1.heap.size so3 m3 sc3 sz3 vs3 ∧ Sv WR.heap.size (W3.heap.size + 1) W5 wr i i n1 n1 go1 mo1 gc1 mc1 f1 f1 gs1 ms1 ls ws) := ⟨SB1, SV⟩
            have HE : Hid (ls[i]? = some (.slice a1 k1 c1) ∧ ws[i]? = some (.slice a2 k2 c2)) := ⟨e1, e2⟩
            have HN1 : Hid (n1 ≤ n9 + i ∧ i < m') := ⟨hn1, hlt2⟩
            have i0 : (0 : Int) ≤ (i : Int) := by omega
            have i1 : (i : Int) < (m' : Int) := by omega
            have hm40 : m' ≤ 40 := HAN.out.small
            clear SB1 SV F1 e1 e2 hn1
            go_wp2_with (first
              | (go_at_call 10; (with_reducible refine (fullQ_ex W3.heap.size x _ _ cx fx).mono ?_); rintro e V1 ⟨bv, y, rfl, hV1⟩; have T1 : Sv WR.heap.size (W3.heap.size + 1) W5 V1 i i n1 n1 go1 mo1 gc1 mc1 f1 f1 gs1 ms1 ls ws := (by rw [hV1.out]; exact HH.out.2.low (by omega) HM.out _); have S1 : Sb w W3.heap.size V1 W1.heap.size so3 m3 sc3 sz3 vs3 := (by rw [hV1.out]; exact HH.out.1.set y); clear hV1; have g1 : V1.cell? ⟨bl, i, none⟩ = some (.slice a1 k1 c1) := (HAN.out.got.chg T1.chg (fun g hg => hg)).get HE.out.1; have bA := box_belowL V1 (.cells #[.slice a1 k1 c1] 28); have oA := (T1.got.below bA).own; have cA : (V1.alloc (.cells #[.slice a1 k1 c1] 28)).cell? ⟨V1.heap.size, 0, none⟩ = some (.slice a1 k1 c1) := (cell_of_row _ _ 0 _ 28 (0, 0) (allocNewL V1 _)).trans rfl)
              | (at_builtin; refine wpList_pushB Try.underlying29 info25L rfl (.tmp 109) (.tmp 114) rfl (W3.heap.size + 1) (by have := S1.lt; simp only [World.size_alloc]; omega) go1 n1 gc1 gs1 rfl oA _ rfl (.slice a1 k1 c1) cA rfl (by have := HN1.out; have := HHK.out; have := HAN.out.small; omega) ?_; intro go2 gc2 V2 r2 g2 p2; have T2 := T1.pushG HAN.out.got HE.out.1 HM.out bA r2 g2 p2; have S2 := S1.chg ((Chg.of_below bA (Nat.le_refl _) _).trans (Chg.of_grown g2)) (fun g hg => (oA.lt g hg).1); have g3 : V2.cell? ⟨bm, i, none⟩ = some (.slice a2 k2 c2) := (HAN.out.want.chg T2.chg (fun g hg => hg)).get HE.out.2; have bA2 := box_belowL V2 (.cells #[.slice a2 k2 c2] 28); have oA2 := (T2.want.below bA2).own; have cA2 : (V2.alloc (.cells #[.slice a2 k2 c2] 28)).cell? ⟨V2.heap.size, 0, none⟩ = some (.slice a2 k2 c2) := (cell_of_row _ _ 0 _ 28 (0, 0) (allocNewL V2 _)).trans rfl)
              | (at_builtin; refine wpList_pushB Try.underlying29 info25L rfl (.tmp 116) (.tmp 121) rfl (W3.heap.size + 1) (by have := S2.lt; simp only [World.size_alloc]; omega) mo1 n1 mc1 ms1 rfl oA2 _ rfl (.slice a2 k2 c2) cA2 rfl (by have := HN1.out; have := HHK.out; have := HAN.out.small; omega) ?_; intro mo2 mc2 V3 r3 g4 p3; have T3 := T2.pushW HAN.out.want HE.out.2 HM.out bA2 r3 g4 p3; have S3 := S2.chg ((Chg.of_below bA2 (Nat.le_refl _) _).trans (Chg.of_grown g4)) (fun g hg => (oA2.lt g hg).1)))
            all_goals go_roundw
            all_goals first
              | exact ⟨i + 1, by have := HN1.out; omega, by go_num, S3, _, _, _, _, n1 + 1, _, _, _, rfl, rfl, by have := HN1.out; omega, T3⟩
              | exact ⟨i + 1, by have := HN1.out; omega, by go_num, S1, _, _, _, _, n1, _, _, _, rfl, rfl, by have := HN1.out; omega, T1.skip⟩
              | (have hh1 := HN1.out.2; simp [intOf]; omega)
          · obtain rfl : i = m' := by omega
            have j1 : ¬ ((i : Int) < (i : Int)) := by omega
            have HH : Hid (Sb w W3.heap.size wr W1.heap.size so3 m3 sc3 sz3 vs3 ∧ Sv WR.heap.size (W3.heap.size + 1) W5 wr i i n1 n1 go1 mo1 gc1 mc1 f1 f1 gs1 ms1 ls ws) := ⟨SB1, SV⟩
            clear SB1 SV
            go_wp2
            go_roundw
            case rel => exact ⟨j + 1, by have := HLT.out; omega, by go_num, HH.out.1, go1, gc1, mo1, mc1, n1, f1, gs1, ms1, rfl, rfl, by have := HHK.out; have := HAN.out.small; omega, HH.out.2.got, HH.out.2.want, HH.out.2.no⟩
            case measure => have := HLT.out; simp [intOf]; omega
      · obtain rfl : j = 2 * k := by omega
        have i1 : ¬ (((2 * k : Nat) : Int) < 2 * (k : Int)) := by omega
        go_wp2
        go_meet
        case rel => exact ⟨SB.bel, go, gc, mo, mc, n9, f9, gs9, ms9, rfl, rfl, by omega, SB.lt, LG, LM, SB.bq⟩
  case rest =>
  obtain ⟨W5, hW5⟩ : ∃ W, W = wc := ⟨_, rfl⟩
  subst hW5
  obtain ⟨B5, go, gc, mo, mc, n, f, gs, ms, rfl, rfl, hn, hs5, LG, LM, Q5⟩ := hcut
  clear Q4 B4 c4 f4 hs4
  have HL5 : Hid (Below w.heap.size w W5 ∧ W3.heap.size + 1 ≤ W5.heap.size ∧ Lg W5 (W3.heap.size + 1) go n gc f gs ∧ Lg W5 (W3.heap.size + 1) mo n mc f ms ∧ Bq W5 (fun g => w.heap.size ≤ g ∧ g < W3.heap.size) W1.heap.size so3 m3 sc3 sz3 vs3) := ⟨B5, hs5, LG, LM, Q5⟩
  clear LG LM Q5 B5 hs5
  go_wp2_with fail
  go_loopw [18] (fun s V => ∃ i : Nat, i ≤ n ∧ s = .int .i64 (i : Nat) ∧ Chg (fun _ => False) W5 V) (fun s _ => n - (intOf s).toNat)
  case atStart => exact ⟨0, Nat.zero_le _, rfl, Chg.refl _ _⟩
  case round =>
    obtain ⟨i, hi, rfl, hC⟩ := hrel
    by_cases hlt : i < n
    · obtain ⟨bl, a1, k1, c1, hlo, _, r1, F1⟩ := (HL5.out.2.2.1.chg hC (fun g e => e.elim)).at hlt
      obtain ⟨bm, a2, k2, c2, hmo, _, r2, F2⟩ := (HL5.out.2.2.2.1.chg hC (fun g e => e.elim)).at hlt
      subst hlo
      subst hmo
      have R1 : Rd wr.drew a1 k1 (f i) := F1.rd.drewN 1
      have R2 : Rd wr.drew a2 k2 (f i) := F2.rd.drewN 1
      have cE := eqL (c := c1) (c' := c2) R1 R2
      have s1 : wr.drew.cell? ⟨bl, i, none⟩ = some (.slice a1 k1 c1) := r1
      have s2 : wr.drew.cell? ⟨bm, i, none⟩ = some (.slice a2 k2 c2) := r2
      have HC5 : Hid (Chg (fun _ => False) W5 wr ∧ i < n) := ⟨hC, hlt⟩
      have i0 : (0 : Int) ≤ (i : Int) := by omega
      have i1 : (i : Int) < (n : Int) := by omega
      clear F1 F2 R1 R2 hC r1 r2
      go_upto_region 35 with fail
      go_region_held3 (fun V => V.cell? ⟨bl, i, none⟩ = some (.slice a1 k1 c1) ∧ V.cell? ⟨bm, i, none⟩ = some (.slice a2 k2 c2)) (first | assumption | exact ⟨s1, s2⟩)
        (first
          | (go_at_call 11; (with_reducible refine cE.mono ?_); rintro e V1 ⟨rfl, q9, hV1⟩; have D1 : Chg (fun _ => False) W5 V1 := (by rw [hV1]; exact ⟨HC5.out.1.os, HC5.out.1.tape, HC5.out.1.output, HC5.out.1.size, HC5.out.1.block⟩); have S1 : V1.cell? ⟨bl, i, none⟩ = some (.slice a1 k1 c1) ∧ V1.cell? ⟨bm, i, none⟩ = some (.slice a2 k2 c2) := (by rw [hV1]; exact ⟨s1, s2⟩); clear hV1))
      clear S1 cE s1 s2
      go_wp2
      go_roundw
      case rel => exact ⟨i + 1, by have := HC5.out.2; omega, by go_num, ⟨D1.os, D1.tape, D1.output, D1.size, D1.block⟩⟩
      case measure => have := HC5.out.2; simp [intOf]; omega
    · obtain rfl : i = n := by omega
      have j1 : ¬ ((i : Int) < (i : Int)) := by omega
      have sC := hC.size
      have sA : (wr.alloc (.cells #[.slice none 0 0, .int .i64 0] 35)).heap.size = wr.heap.size + 1 := World.size_alloc _ _
      have LGn := (HL5.out.2.2.1.chg hC (fun g e => e.elim))
      have QC : Bq (wr.alloc (.cells #[.slice none 0 0, .int .i64 0] 35)) (fun g => g = wr.heap.size) wr.heap.size none 0 0 0 [] := Bq.made rfl
      have QB := (HL5.out.2.2.2.2.chg hC (fun _ _ e => e)).below (box_belowL wr (.cells #[.slice none 0 0, .int .i64 0] 35))
      have Bn : Below w.heap.size w (wr.alloc (.cells #[.slice none 0 0, .int .i64 0] 35)) := (hC.below HL5.out.1 (fun _ e => e.elim) (Nat.le_refl _)).trans ((box_belowL wr (.cells #[.slice none 0 0, .int .i64 0] 35)).mono (by have := HL5.out.1.size; omega))
      obtain ⟨qa, qn, qc, _, L⟩ := (LGn.below (box_belowL wr (.cells #[.slice none 0 0, .int .i64 0] 35))).lsq (by omega)
      have cT := takeQ_any wr.heap.size none 0 0 0 [] (fun g => g = wr.heap.size) _ go i gc qa qn qc (wr.alloc (.cells #[.slice none 0 0, .int .i64 0] 35)) QC L (fun g hr e => by
        obtain ⟨_, _, cs, hcs⟩ := hr
        rw [e, allocNewL] at hcs
        injection hcs with h1
        injection h1 with _ h2 _
        exact absurd h2 (by decide)) (fun b' off' e e' => by have := (LGn.outer e).2; omega) (by omega)
      have HB := (show Hid _ from QB)
      have HBn := (show Hid _ from Bn)
      have HS5 : Hid (W3.heap.size + 1 ≤ wr.heap.size ∧ w.heap.size ≤ wr.heap.size) := ⟨by have := HL5.out.2.1; omega, by have := HL5.out.1.size; omega⟩
      clear QB Bn QC LGn L hC sC sA
      go_wp2_with (first
        | (go_at_call 8; (with_reducible refine cT.mono ?_); rintro e W7 ⟨rfl, ⟨so7, m7, sc7, sz7, vs7, Q7, hm7⟩, C7⟩; have c7 := wholeQ_any _ _ _ _ _ _ _ _ Q7 (by omega); have Q8 := HB.out.chg C7 (fun g hg hr => (by have := HS5.out; rcases hr with hr | hr <;> omega)); have c8 := wholeQ_any _ _ _ _ _ _ _ _ Q8 (by omega); have B7 : Below w.heap.size w W7 := C7.below HBn.out (fun g hr => (by have := HS5.out; rcases hr with hr | hr <;> omega)) (Nat.le_refl _); clear Q7 C7 Q8)
        | (go_at_call 9; (with_reducible refine c8.mono ?_); rintro e V8 ⟨rfl, hV8⟩; rw [hV8]; clear hV8 V8)
        | (go_at_call 9; (with_reducible refine c7.mono ?_); rintro e V8 ⟨rfl, hV8⟩; rw [hV8]; clear hV8 V8))
      go_ret
      exact ⟨rfl, B7⟩
end Go.Proofs.Ytdeglhifemmknaa
