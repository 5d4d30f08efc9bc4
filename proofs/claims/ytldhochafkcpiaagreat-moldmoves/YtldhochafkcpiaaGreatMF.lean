
/- Contract of package mold: axesOf, over the library's slices.Backward. -/

import Derived.Test.YtldhochafkcpiaaGreatME
import Derived.Test.YtldhochafkcpiaaGreatIndices


namespace Go.Proofs.YtldhochafkcpiaaGreat

open Go.RowKit Go.Shelf Go.Deep

attribute [local go_sem] Oper.semAt_some

set_option linter.unusedVariables false

def cur4 (cur : List Value) (k : Nat) (a b c d : Value) : List Value := (((cur.set (k * 4) a).set (k * 4 + 1) b).set (k * 4 + 2) c).set (k * 4 + 3) d
theorem cur4_len (cur : List Value) (k : Nat) (a b c d : Value) : (cur4 cur k a b c d).length = cur.length := by simp [cur4]
theorem cur4_ne {cur : List Value} {k : Nat} {a b c d : Value} {i : Nat} (h0 : i ≠ k * 4) (h1 : i ≠ k * 4 + 1) (h2 : i ≠ k * 4 + 2) (h3 : i ≠ k * 4 + 3) : (cur4 cur k a b c d)[i]? = cur[i]? := by
  unfold cur4
  rw [List.getElem?_set_ne (by omega), List.getElem?_set_ne (by omega), List.getElem?_set_ne (by omega), List.getElem?_set_ne (by omega)]
theorem cur4_at {cur : List Value} {k : Nat} {a b c d : Value} (h : k * 4 + 3 < cur.length) : (cur4 cur k a b c d)[k * 4]? = some a ∧ (cur4 cur k a b c d)[k * 4 + 1]? = some b ∧ (cur4 cur k a b c d)[k * 4 + 2]? = some c ∧ (cur4 cur k a b c d)[k * 4 + 3]? = some d := by
  unfold cur4
  refine ⟨?_, ?_, ?_, ?_⟩
  · rw [List.getElem?_set_ne (by omega), List.getElem?_set_ne (by omega), List.getElem?_set_ne (by omega), List.getElem?_set_self (by omega)]
  · rw [List.getElem?_set_ne (by omega), List.getElem?_set_ne (by omega), List.getElem?_set_self (by simp; omega)]
  · rw [List.getElem?_set_ne (by omega), List.getElem?_set_self (by simp; omega)]
  · rw [List.getElem?_set_self (by simp; omega)]
/-- Four cells of a row, written one behind the other. -/
def put4 (W : World) (g k : Nat) (a b c d : Value) : World := (((W.setCell ⟨g, k * 4, none⟩ a).setCell ⟨g, k * 4 + 1, none⟩ b).setCell ⟨g, k * 4 + 2, none⟩ c).setCell ⟨g, k * 4 + 3, none⟩ d
theorem put4_grown (W : World) (g k : Nat) (a b c d : Value) : W.grownBy (put4 W g k a b c d) (some g) := by
  have h1 := set2 W g (k * 4) (k * 4 + 1) a b
  have h2 := set2 ((W.setCell ⟨g, k * 4, none⟩ a).setCell ⟨g, k * 4 + 1, none⟩ b) g (k * 4 + 2) (k * 4 + 3) c d
  exact ⟨h2.os.trans h1.os, h2.tape.trans h1.tape, h2.output.trans h1.output, Nat.le_trans h1.size h2.size, fun j hj hne => (h2.block j (Nat.lt_of_lt_of_le hj h1.size) hne).trans (h1.block j hj hne)⟩
theorem put4_row {W : World} {g k : Nat} {a b c d : Value} {cur : List Value} (h : W.heap[g]? = some (.cells cur.toArray 89 (0, 0))) : (put4 W g k a b c d).heap[g]? = some (.cells (cur4 cur k a b c d).toArray 89 (0, 0)) := by
  have a1 := heap_setCell_same W g (k * 4) _ 89 a h
  have a2 := heap_setCell_same _ g (k * 4 + 1) _ 89 b a1
  have a3 := heap_setCell_same _ g (k * 4 + 2) _ 89 c a2
  have a4 := heap_setCell_same _ g (k * 4 + 3) _ 89 d a3
  unfold put4 cur4
  simpa using a4
/-- The four slots of one axis. -/
theorem slot4 {W : World} {g n k : Nat} {cur : List Value} (h : W.heap[g]? = some (.cells cur.toArray 89 (0, 0))) (hl : n * 4 ≤ cur.length) (hk : k < n) : ∃ x y z u, W.cell? ⟨g, k * 4, none⟩ = some x ∧ W.cell? ⟨g, k * 4 + 1, none⟩ = some y ∧ W.cell? ⟨g, k * 4 + 2, none⟩ = some z ∧ W.cell? ⟨g, k * 4 + 3, none⟩ = some u ∧ W.frozen? ⟨g, k * 4, none⟩ = false ∧ W.frozen? ⟨g, k * 4 + 1, none⟩ = false ∧ W.frozen? ⟨g, k * 4 + 2, none⟩ = false ∧ W.frozen? ⟨g, k * 4 + 3, none⟩ = false := by
  have a : k * 4 < cur.length := by omega
  have b : k * 4 + 1 < cur.length := by omega
  have c : k * 4 + 2 < cur.length := by omega
  have d : k * 4 + 3 < cur.length := by omega
  exact ⟨cur[k * 4], cur[k * 4 + 1], cur[k * 4 + 2], cur[k * 4 + 3], (cell_of_row W g _ _ _ (0, 0) h).trans (by simp), (cell_of_row W g _ _ _ (0, 0) h).trans (by simp), (cell_of_row W g _ _ _ (0, 0) h).trans (by simp), (cell_of_row W g _ _ _ (0, 0) h).trans (by simp), frozen_of_row W g _ _ _ h, frozen_of_row W g _ _ _ h, frozen_of_row W g _ _ _ h, frozen_of_row W g _ _ _ h⟩
theorem AxAt.other {W W' : World} {N : Nat → Prop} {j k : Nat} {cur : List Value} {a : Ax} {v0 v1 v2 v3 : Value} (h : AxAt W N cur j a) (hj : j ≠ k) (hk : ∀ b, b < W.heap.size → N b → W'.heap[b]? = W.heap[b]?) : AxAt W' N (cur4 cur k v0 v1 v2 v3) j a := by
  obtain ⟨K, cs, bs, a1, a2, a3, a4, a5, a6, a7, a8⟩ := h.keep hk
  exact ⟨K, cs, bs, by rw [cur4_ne (by omega) (by omega) (by omega) (by omega)]; exact a1, by rw [cur4_ne (by omega) (by omega) (by omega) (by omega)]; exact a2, by rw [cur4_ne (by omega) (by omega) (by omega) (by omega)]; exact a3, by rw [cur4_ne (by omega) (by omega) (by omega) (by omega)]; exact a4, a5, a6, a7, a8⟩
/-- An axis that is to be laid into a row. -/
structure AxV (W : World) (N : Nat → Prop) (a : Ax) (K : Nat) (cs : Array Value) (bs : List Nat) : Prop where
  way : Way W bs a.wid a.stp a.f (.func (.func K) #[] cs)
  out : ∀ b, b ∈ bs → (∃ v, W.cell? ⟨b, 0, none⟩ = some v) ∧ N b
  wid : a.wid ≤ 4096
  stp : a.stp ≤ 4096
theorem AxV.put {W W' : World} {N : Nat → Prop} {k : Nat} {a : Ax} {K : Nat} {cs : Array Value} {bs : List Nat} {cur : List Value} (h : AxV W N a K cs bs) (hk : ∀ b, b < W.heap.size → N b → W'.heap[b]? = W.heap[b]?) (hl : k * 4 + 3 < cur.length) :
    AxAt W' N (cur4 cur k (.int .i64 (a.len : Nat)) (.int .i64 (a.wid : Nat)) (.int .i64 (a.stp : Nat)) (.func (.func K) #[] cs)) k a := by
  obtain ⟨c0, c1, c2, c3⟩ := cur4_at (cur := cur) (k := k) (a := .int .i64 (a.len : Nat)) (b := .int .i64 (a.wid : Nat)) (c := .int .i64 (a.stp : Nat)) (d := .func (.func K) #[] cs) hl
  refine ⟨K, cs, bs, c0, c1, c2, c3, h.way.keep (fun b m => ?_), fun b m => ?_, h.wid, h.stp⟩
  · obtain ⟨⟨v, hv⟩, hne⟩ := h.out b m
    exact hk b (World.block_lt_of_cell? W _ hv) hne
  · obtain ⟨⟨v, hv⟩, hne⟩ := h.out b m
    exact ⟨⟨v, (cell_same (hk b (World.block_lt_of_cell? W _ hv) hne) 0).trans hv⟩, hne⟩
theorem Axs.put {W : World} {g n k : Nat} {axs : List Ax} {a : Ax} {K : Nat} {cs : Array Value} {bs : List Nat} (h : Axs W g n axs) (hk : k < n) (v : AxV W (fun b => b ≠ g) a K cs bs) :
    Axs (put4 W g k (.int .i64 (a.len : Nat)) (.int .i64 (a.wid : Nat)) (.int .i64 (a.stp : Nat)) (.func (.func K) #[] cs)) g n (axs.set k a) := by
  obtain ⟨cur, h1, h2, h3⟩ := h.row
  have hg := put4_grown W g k (.int .i64 (a.len : Nat)) (.int .i64 (a.wid : Nat)) (.int .i64 (a.stp : Nat)) (.func (.func K) #[] cs)
  have hb : ∀ b, b < W.heap.size → b ≠ g → (put4 W g k (.int .i64 (a.len : Nat)) (.int .i64 (a.wid : Nat)) (.int .i64 (a.stp : Nat)) (.func (.func K) #[] cs)).heap[b]? = W.heap[b]? := fun b hb hne => hg.block b hb (fun e => hne (by cases e; rfl))
  refine ⟨by rw [List.length_set]; exact h.len, _, put4_row h1, by rw [cur4_len]; exact h2, fun j hj => ?_⟩
  by_cases e : j = k
  · subst e
    have : nax (axs.set j a) j = a := by unfold nax; simp [h.len, hj]
    rw [this]
    exact v.put hb (by omega)
  · have : nax (axs.set k a) j = nax axs j := by unfold nax; rw [List.getD_eq_getElem?_getD, List.getD_eq_getElem?_getD, List.getElem?_set_ne (fun e' => e e'.symm)]
    rw [this]
    exact (h3 j hj).other e hb

theorem axsOf_nax : ∀ {s : List Int} {k : Nat}, k < s.length → nax (axsOf s) k = ⟨(nth s k).toNat, (nth s k).toNat, (pr (s.drop (k + 1))).toNat, fun i => (i : Int)⟩
  | [], k, h => by simp at h
  | z :: r, 0, h => rfl
  | z :: r, k + 1, h => by
    have := axsOf_nax (s := r) (k := k) (by simpa using h)
    simpa [nax, axsOf, nth] using this

/-- Between two rounds of axesOf: its variables, and the axes from k on. -/
structure AxI (w : World) (so : Option Addr) (n sc : Nat) (s : List Int) (k : Nat) (W : World) : Prop where
  ax : Boxed W (w.heap.size + 1) 91 (.slice (some ⟨w.heap.size, 0, none⟩) n n)
  st : Boxed W (w.heap.size + 1 + 1) 3 (.int .i64 (pr (s.drop k)))
  li : Boxed W (w.heap.size + 1 + 1 + 1) 23 (.slice so n sc)
  row : ∃ cur : List Value, W.heap[w.heap.size]? = some (.cells cur.toArray 89 (0, 0)) ∧ cur.length = n * 4 ∧ ∀ j, k ≤ j → j < n → AxAt W (fun b => w.heap.size + 4 ≤ b) cur j (nax (axsOf s) j)
  bel : Below w.heap.size w W
theorem loop_ne {W : World} {l b : Nat} {r : Loop} {v : Value} (hl : W.heap[l]? = some (.loop r)) (h : W.cell? ⟨b, 0, none⟩ = some v) : b ≠ l := by
  rintro rfl
  simp [World.cell?, hl] at h
theorem AxI.keptL {w : World} {so : Option Addr} {n sc : Nat} {s : List Int} {k l : Nat} {W W' : World} {r : Loop} (h : AxI w so n sc s k W) (hg : W.grownBy W' (some l)) (hc : W.heap[l]? = some (.loop r)) (hl : w.heap.size + 4 ≤ l) : AxI w so n sc s k W' := by
  have ne : ∀ b, b < w.heap.size + 4 → some b ≠ some l := fun b hb e => by cases e; omega
  obtain ⟨cur, c1, c2, c3⟩ := h.row
  exact ⟨h.ax.kept hg (ne _ (by omega)), h.st.kept hg (ne _ (by omega)), h.li.kept hg (ne _ (by omega)), ⟨cur, (hg.block _ (Array.getElem?_eq_some_iff.1 c1).1 (ne _ (by omega))).trans c1, c2, fun j h1 h2 => (c3 j h1 h2).keepC (fun b v hv _ => hg.block b (World.block_lt_of_cell? W _ hv) (fun e => loop_ne hc hv (by cases e; rfl)))⟩, h.bel.grown hg h.bel.size (fun k e => by cases e; omega)⟩
theorem AxI.below {w : World} {so : Option Addr} {n sc : Nat} {s : List Int} {k : Nat} {W W' : World} (h : AxI w so n sc s k W) (hb : Below W.heap.size W W') : AxI w so n sc s k W' := by
  obtain ⟨cur, c1, c2, c3⟩ := h.row
  have hg := grown_of_below hb
  exact ⟨h.ax.kept hg (by simp), h.st.kept hg (by simp), h.li.kept hg (by simp), ⟨cur, (hb.block _ (Array.getElem?_eq_some_iff.1 c1).1).trans c1, c2, fun j h1 h2 => (c3 j h1 h2).keep (fun b l _ => hb.block b l)⟩, h.bel.trans (hb.mono h.bel.size)⟩
theorem fun_zero : (fun i : Nat => (i : Int) + 0) = fun i : Nat => (i : Int) := funext fun i => by omega
/-- The end of a round. -/
theorem AxI.step {w : World} {so : Option Addr} {n sc : Nat} {s : List Int} {k gb : Nat} {V : World} (h : AxI w so n sc s (k + 1) V) (hn : s.length = n) (hk : k < n) (h0 : 0 ≤ nth s k ∧ nth s k ≤ 4096) (h1 : 0 ≤ pr (s.drop (k + 1)) ∧ pr (s.drop (k + 1)) ≤ 4096) (hgb : w.heap.size + 4 ≤ gb) (hc : V.cell? ⟨gb, 0, none⟩ = some (.int .i64 0)) (z : Value) (hz : z = .int .i64 (pr (s.drop k))) :
    AxI w so n sc s k ((put4 V w.heap.size k (.int .i64 (nth s k)) (.int .i64 (nth s k)) (.int .i64 (pr (s.drop (k + 1)))) (shV gb)).setCell ⟨w.heap.size + 1 + 1, 0, none⟩ z) := by
  subst hz
  obtain ⟨cur, c1, c2, c3⟩ := h.row
  have hg := put4_grown V w.heap.size k (.int .i64 (nth s k)) (.int .i64 (nth s k)) (.int .i64 (pr (s.drop (k + 1)))) (shV gb)
  have hr := put4_row (k := k) (a := .int .i64 (nth s k)) (b := .int .i64 (nth s k)) (c := .int .i64 (pr (s.drop (k + 1)))) (d := shV gb) c1
  have hst := (h.st.kept hg (some_ne (by omega))).set (.int .i64 (pr (s.drop k)))
  generalize hU : put4 V w.heap.size k (.int .i64 (nth s k)) (.int .i64 (nth s k)) (.int .i64 (pr (s.drop (k + 1)))) (shV gb) = U at *
  have hg2 := grownBy_setCell' U (w.heap.size + 1 + 1) (.int .i64 (pr (s.drop k)))
  have hbl : ∀ b, b < V.heap.size → b ≠ w.heap.size → b ≠ w.heap.size + 1 + 1 → (U.setCell ⟨w.heap.size + 1 + 1, 0, none⟩ (.int .i64 (pr (s.drop k)))).heap[b]? = V.heap[b]? := fun b hb n1 n2 =>
    (hg2.block b (Nat.lt_of_lt_of_le hb hg.size) (some_ne n2)).trans (hg.block b hb (some_ne n1))
  have e1 : (((nth s k).toNat : Nat) : Int) = nth s k := Int.toNat_of_nonneg h0.1
  have e2 : (((pr (s.drop (k + 1))).toNat : Nat) : Int) = pr (s.drop (k + 1)) := Int.toNat_of_nonneg h1.1
  have hv : AxV V (fun b => w.heap.size + 4 ≤ b) (nax (axsOf s) k) 107 #[.pointer (some ⟨gb, 0, none⟩)] [gb] := by
    rw [axsOf_nax (by omega)]
    refine ⟨?_, fun b m => ?_, by show (nth s k).toNat ≤ 4096; omega, by show (pr (s.drop (k + 1))).toNat ≤ 4096; omega⟩
    · have := way_sh (nth s k).toNat (pr (s.drop (k + 1))).toNat (by omega) (by omega) hc (by omega) (by omega)
      rw [fun_zero] at this
      exact this
    · rw [List.mem_singleton] at m
      subst m
      exact ⟨⟨_, hc⟩, hgb⟩
  have hp := hv.put (W' := U.setCell ⟨w.heap.size + 1 + 1, 0, none⟩ (.int .i64 (pr (s.drop k)))) (k := k) (cur := cur) (fun b hb hn => hbl b hb (by omega) (by omega)) (by omega)
  rw [axsOf_nax (by omega)] at hp
  dsimp only at hp
  rw [e1, e2] at hp
  refine ⟨(h.ax.kept hg (some_ne (by omega))).kept hg2 (some_ne (by omega)), hst, (h.li.kept hg (some_ne (by omega))).kept hg2 (some_ne (by omega)), ⟨_, (hg2.block _ (by have := (Array.getElem?_eq_some_iff.1 hr).1; exact this) (some_ne (by omega))).trans hr, by rw [cur4_len]; exact c2, fun j j1 j2 => ?_⟩, ?_⟩
  · by_cases e : j = k
    · subst e
      rw [axsOf_nax (by omega)]
      exact hp
    · exact (c3 j (by omega) j2).other e (fun b hb hn => hbl b hb (by omega) (by omega))
  · rw [← hU]
    exact ((below_set4 _ _ _ _ _ _ _ _ h.bel (Nat.le_refl _))).setCell (p := ⟨w.heap.size + 1 + 1, 0, none⟩) (by simp; omega) _
end Go.Proofs.YtldhochafkcpiaaGreat
