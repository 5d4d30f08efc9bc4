
/- Contracts of package mold: lists of axes, and what they gather. -/

import Derived.Test.YtldhochafkcpiaaGreatMC
import Derived.Laws.EntriesVeiled


namespace Go.Proofs.YtldhochafkcpiaaGreat

open Go.RowKit

set_option linter.unusedVariables false

def nax (axs : List Ax) (k : Nat) : Ax := axs.getD k ⟨0, 0, 0, fun _ => 0⟩
/-- One axis in a row of axes. -/
def AxAt (W : World) (N : Nat → Prop) (cur : List Value) (k : Nat) (a : Ax) : Prop :=
  ∃ (K : Nat) (cs : Array Value) (bs : List Nat), cur[k * 4]? = some (.int .i64 (a.len : Nat)) ∧ cur[k * 4 + 1]? = some (.int .i64 (a.wid : Nat)) ∧ cur[k * 4 + 2]? = some (.int .i64 (a.stp : Nat)) ∧ cur[k * 4 + 3]? = some (.func (.func K) #[] cs) ∧ Way W bs a.wid a.stp a.f (.func (.func K) #[] cs) ∧ (∀ b, b ∈ bs → (∃ v, W.cell? ⟨b, 0, none⟩ = some v) ∧ N b) ∧ a.wid ≤ 4096 ∧ a.stp ≤ 4096
theorem AxAt.keepC {W W' : World} {N : Nat → Prop} {k : Nat} {cur : List Value} {a : Ax} (h : AxAt W N cur k a) (hk : ∀ b v, W.cell? ⟨b, 0, none⟩ = some v → N b → W'.heap[b]? = W.heap[b]?) : AxAt W' N cur k a := by
  obtain ⟨K, cs, bs, a1, a2, a3, a4, a5, a6, a7, a8⟩ := h
  refine ⟨K, cs, bs, a1, a2, a3, a4, a5.keep (fun b m => ?_), fun b m => ?_, a7, a8⟩
  · obtain ⟨⟨v, hv⟩, hne⟩ := a6 b m
    exact hk b v hv hne
  · obtain ⟨⟨v, hv⟩, hne⟩ := a6 b m
    exact ⟨⟨v, (cell_same (hk b v hv hne) 0).trans hv⟩, hne⟩
theorem AxAt.keep {W W' : World} {N : Nat → Prop} {k : Nat} {cur : List Value} {a : Ax} (h : AxAt W N cur k a) (hk : ∀ b, b < W.heap.size → N b → W'.heap[b]? = W.heap[b]?) : AxAt W' N cur k a :=
  h.keepC fun b v hv hne => hk b (World.block_lt_of_cell? W _ hv) hne
theorem AxAt.weak {W : World} {N N' : Nat → Prop} {k : Nat} {cur : List Value} {a : Ax} (h : AxAt W N cur k a) (hk : ∀ b, N b → N' b) : AxAt W N' cur k a := by
  obtain ⟨K, cs, bs, a1, a2, a3, a4, a5, a6, a7, a8⟩ := h
  exact ⟨K, cs, bs, a1, a2, a3, a4, a5, fun b m => ⟨(a6 b m).1, hk b (a6 b m).2⟩, a7, a8⟩
/-- A row of n axes. -/
structure Axs (W : World) (g n : Nat) (axs : List Ax) : Prop where
  len : axs.length = n
  row : ∃ cur : List Value, W.heap[g]? = some (.cells cur.toArray 89 (0, 0)) ∧ n * 4 ≤ cur.length ∧ ∀ k, k < n → AxAt W (fun b => b ≠ g) cur k (nax axs k)
theorem Axs.lt {W : World} {g n : Nat} {axs : List Ax} (h : Axs W g n axs) : g < W.heap.size := by
  obtain ⟨cur, h1, _⟩ := h.row
  exact (Array.getElem?_eq_some_iff.1 h1).1
theorem Axs.below {W W' : World} {g n : Nat} {axs : List Ax} (h : Axs W g n axs) (hb : Below W.heap.size W W') : Axs W' g n axs := by
  have hl := h.lt
  obtain ⟨cur, h1, h2, h3⟩ := h.row
  exact ⟨h.len, cur, (hb.block g hl).trans h1, h2, fun k hk => (h3 k hk).keep (fun b l _ => hb.block b l)⟩
/-- What a round reads of one. -/
theorem Axs.at {W : World} {g n : Nat} {axs : List Ax} (h : Axs W g n axs) {k : Nat} (hk : k < n) : ∃ (K : Nat) (cs : Array Value) (bs : List Nat), W.cell? ⟨g, k * 4, none⟩ = some (.int .i64 ((nax axs k).len : Nat)) ∧ W.cell? ⟨g, k * 4 + 1, none⟩ = some (.int .i64 ((nax axs k).wid : Nat)) ∧ W.cell? ⟨g, k * 4 + 2, none⟩ = some (.int .i64 ((nax axs k).stp : Nat)) ∧ W.cell? ⟨g, k * 4 + 3, none⟩ = some (.func (.func K) #[] cs) ∧ Way W bs (nax axs k).wid (nax axs k).stp (nax axs k).f (.func (.func K) #[] cs) ∧ (∀ b, b ∈ bs → b < W.heap.size) ∧ (nax axs k).wid ≤ 4096 ∧ (nax axs k).stp ≤ 4096 := by
  obtain ⟨cur, h1, h2, h3⟩ := h.row
  obtain ⟨K, cs, bs, a1, a2, a3, a4, a5, a6, a7, a8⟩ := h3 k hk
  exact ⟨K, cs, bs, (cell_of_row W g _ _ _ (0, 0) h1).trans (by simpa using a1), (cell_of_row W g _ _ _ (0, 0) h1).trans (by simpa using a2), (cell_of_row W g _ _ _ (0, 0) h1).trans (by simpa using a3), (cell_of_row W g _ _ _ (0, 0) h1).trans (by simpa using a4), a5, fun b m => (by obtain ⟨⟨v, hv⟩, _⟩ := a6 b m; exact World.block_lt_of_cell? W _ hv), a7, a8⟩
/-- A list of axes: where it has none it may be nil. -/
def AxL (W : World) (xo : Option Addr) (n : Nat) (axs : List Ax) : Prop := axs.length = n ∧ (0 < n → ∃ g, xo = some ⟨g, 0, none⟩ ∧ Axs W g n axs)
theorem AxL.below {W W' : World} {xo : Option Addr} {n : Nat} {axs : List Ax} (h : AxL W xo n axs) (hb : Below W.heap.size W W') : AxL W' xo n axs :=
  ⟨h.1, fun h0 => let ⟨g, e, a⟩ := h.2 h0; ⟨g, e, a.below hb⟩⟩
theorem Axs.ax {W : World} {g n : Nat} {axs : List Ax} (h : Axs W g n axs) : AxL W (some ⟨g, 0, none⟩) n axs := ⟨h.len, fun _ => ⟨g, rfl, h⟩⟩

theorem nax_lt {axs : List Ax} {k : Nat} (h : k < axs.length) : nax axs k = axs[k] := by simp [nax, h]
theorem nax_take {axs : List Ax} {k : Nat} (h : k < axs.length) : axs.take (k + 1) = axs.take k ++ [nax axs k] := by
  rw [List.take_succ_eq_append_getElem h, nax_lt h]
theorem lens_nth {axs : List Ax} {k : Nat} (h : k < axs.length) : nth (lens axs) k = ((nax axs k).len : Int) := by
  rw [nth_lt (by simpa [lens] using h), nax_lt h]; simp [lens]
theorem lens_len (axs : List Ax) : (lens axs).length = axs.length := by simp [lens]
theorem lens_take (axs : List Ax) (k : Nat) : lens (axs.take k) = (lens axs).take k := by simp [lens, List.map_take]
theorem pls_take {axs : List Ax} {k : Nat} (h : k < axs.length) : pls (axs.take (k + 1)) = blw (nax axs k) (pls (axs.take k)) := by
  unfold pls; rw [nax_take h, plsF_snoc]
theorem pls_bd {axs : List Ax} (hw : ∀ k, k < axs.length → (nax axs k).wid ≤ 4096 ∧ (nax axs k).stp ≤ 4096) : ∀ k : Nat, k ≤ axs.length → inPl ((k : Int) * 16777216) (pls (axs.take k))
  | 0, _ => by intro p hp; simp [pls, plsF] at hp; subst hp; omega
  | k + 1, hk => by
    rw [pls_take (by omega)]
    have := inPl_blw (a := nax axs k) (pls_bd hw k (by omega)) (hw k (by omega)).1 (hw k (by omega)).2 (by omega)
    intro p hp
    have := this p hp
    omega
theorem inPl.mono {B B' : Int} {ps : List Int} (h : inPl B ps) (hB : B ≤ B') : inPl B' ps := fun p hp => ⟨(h p hp).1, Int.le_trans (h p hp).2 hB⟩

def gthS (at' : List Int) (axs : List Ax) : List Int := if mayF (lens axs) = 0 then gth at' axs else []
/-- Between the loops of gather: the array's box and the answer's. -/
structure Ga (w W : World) (so : Option Addr) (sn sc : Nat) (ao : Option Addr) (an ac : Nat) : Prop where
  bel : Below w.heap.size w W
  c0 : W.cell? ⟨w.heap.size, 0, none⟩ = some (.slice so sn sc)
  c1 : W.cell? ⟨w.heap.size, 1, none⟩ = some (.slice ao an ac)
  r : W.heap[w.heap.size + 1]? = some (.cells #[.slice none 0 0, .slice none 0 0] 25 (0, 0))
theorem Ga.below {w W W' : World} {so : Option Addr} {sn sc : Nat} {ao : Option Addr} {an ac B : Nat} (h : Ga w W so sn sc ao an ac) (k : Below B W W') (hB : w.heap.size + 2 ≤ B) : Ga w W' so sn sc ao an ac :=
  ⟨h.bel.trans (k.mono (by omega)), (k.cell (p := ⟨w.heap.size, 0, none⟩) (show w.heap.size < B by omega)).trans h.c0, (k.cell (p := ⟨w.heap.size, 1, none⟩) (show w.heap.size < B by omega)).trans h.c1, (k.block _ (by omega)).trans h.r⟩
theorem ga_start (w : World) (so : Option Addr) (sn sc : Nat) (ao : Option Addr) (an ac : Nat) :
    Ga w ((w.alloc (.cells #[.slice so sn sc, .slice ao an ac] 25)).alloc (.cells #[.slice none 0 0, .slice none 0 0] 25)) so sn sc ao an ac := by
  have b0 := allocNew w (.cells #[.slice so sn sc, .slice ao an ac] 25)
  have b1 := allocNew (w.alloc (.cells #[.slice so sn sc, .slice ao an ac] 25)) (.cells #[.slice none 0 0, .slice none 0 0] 25)
  have k := box_below (w.alloc (.cells #[.slice so sn sc, .slice ao an ac] 25)) (.cells #[.slice none 0 0, .slice none 0 0] 25)
  rw [World.size_alloc] at b1
  obtain ⟨x0, x1, _, _⟩ := box2 b0
  exact ⟨(box_below w _).trans (k.mono (by simp)), (k.cell (p := ⟨w.heap.size, 0, none⟩) (by simp)).trans x0, (k.cell (p := ⟨w.heap.size, 1, none⟩) (by simp)).trans x1, b1⟩
end Go.Proofs.YtldhochafkcpiaaGreat
