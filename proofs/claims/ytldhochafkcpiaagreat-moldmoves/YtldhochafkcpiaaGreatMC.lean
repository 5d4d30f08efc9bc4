
/- Contracts of package mold: the places below an axis. -/

import Derived.Test.YtldhochafkcpiaaGreatMB
import Derived.Lib.JoinLaws


namespace Go.Proofs.YtldhochafkcpiaaGreat

open Go.RowKit

set_option linter.unusedVariables false

theorem nth_setL {zs : List Int} {j k : Nat} {u : Int} (hj : j < zs.length) : nth (zs.set j u) k = if k = j then u else nth zs k := by
  unfold nth
  by_cases h : k = j
  · subst h; simp [hj]
  · rw [if_neg h, List.getD_eq_getElem?_getD, List.getD_eq_getElem?_getD, List.getElem?_set_ne (fun e => h e.symm)]
theorem Ft.setT {e : TypeId} {w : World} {B g : Nat} {n cap : Nat} {zs : List Int} (h : Ft e w B (some ⟨g, 0, none⟩) n cap zs) (j : Nat) (hj : j < n) (u : Int) (h1 : -9223372036854775808 ≤ u) (h2 : u ≤ 9223372036854775807) :
    Ft e (w.setCell ⟨g, j, none⟩ (.int .i64 u)) B (some ⟨g, 0, none⟩) n cap (zs.set j u) := by
  have hl := h.rd.len
  have hs := (h.own.stored j (.int .i64 u)).1
  rw [show (zs.map (Value.int .i64)).set j (.int .i64 u) = (zs.set j u).map (Value.int .i64) by rw [List.map_set]] at hs
  obtain ⟨ao, c, e, hf⟩ := Ft.mk' (zs := zs.set j u) (by rw [List.length_set]; exact hl) h.rd.room (fun k hk => by
    rw [nth_setL (by omega)]
    split
    · exact ⟨h1, h2⟩
    · exact h.rd.num k hk) hs
  cases e
  exact hf
theorem made_ftT (e : TypeId) (w : World) (n : Nat) (hr : n * 8 ≤ 140737488351232) : Ft e (w.alloc (.cells (madeCells #[.int .i64 0] n) e)) w.heap.size (some ⟨w.heap.size, 0, none⟩) n n (List.replicate n 0) := by
  have hown : (w.alloc (.cells (madeCells #[.int .i64 0] n) e)).ownsRow w.heap.size e 1 (.slice (some ⟨w.heap.size, 0, none⟩) n n) n ((List.replicate n 0).map (Value.int .i64)) := by
    refine ⟨by simp, .inr ⟨w.heap.size, n, madeCells #[.int .i64 0] n, rfl, by omega, allocNew _ _, Nat.le_refl _, by unfold maxLen; omega, by simp [madeCells], ?_⟩⟩
    rw [Nat.mul_one]
    apply List.ext_getElem
    · simp [madeCells]
    · intro i h1 h2; simp [madeCells, Nat.mod_one]
  obtain ⟨a, c, e, hf⟩ := Ft.mk' (zs := List.replicate n 0) (by simp) hr (fun k hk => by simp [nth, hk]) hown
  cases e
  exact hf
theorem room_ftT (e : TypeId) (w : World) (n : Nat) (hr : n * 8 ≤ 140737488351232) : Ft e (w.alloc (.cells (madeCells #[.int .i64 0] n) e)) w.heap.size (some ⟨w.heap.size, 0, none⟩) 0 n [] := by
  obtain ⟨cur, hcur⟩ := arr_list (madeCells #[.int .i64 0] n)
  have hl := size_madeCells #[.int .i64 0] n
  have hn := allocNew w (.cells (madeCells #[.int .i64 0] n) e)
  rw [hcur] at hl hn ⊢
  exact Ft.row hn (Nat.le_refl _) rfl (by omega) (fun k hk => by omega) (Nat.zero_le _) (by unfold maxLen; omega) (by simpa using hl) rfl
/-- A row that is being filled: its first k are f's; below it nothing has changed. -/
structure RwT (e : TypeId) (W V : World) (n k : Nat) (f : Nat → Int) : Prop where
  bel : Below W.heap.size W V
  row : ∃ zs, Ft e V W.heap.size (some ⟨W.heap.size, 0, none⟩) n n zs ∧ (∀ j, j < k → nth zs j = f j) ∧ ∀ j, k ≤ j → j < n → nth zs j = 0
theorem RwT.start (e : TypeId) (W : World) (n : Nat) (f : Nat → Int) (hr : n * 8 ≤ 140737488351232) : RwT e W (W.alloc (.cells (madeCells #[.int .i64 0] n) e)) n 0 f :=
  ⟨box_below W _, _, made_ftT e W n hr, fun j hj => by omega, fun j _ hj => by simp [nth, hj]⟩
theorem RwT.below {e : TypeId} {W V V' : World} {n k : Nat} {f : Nat → Int} (h : RwT e W V n k f) (b : Below V.heap.size V V') : RwT e W V' n k f := by
  obtain ⟨zs, hf, hz⟩ := h.row
  exact ⟨h.bel.trans (b.mono h.bel.size), zs, hf.below b (Nat.le_refl _), hz⟩
theorem RwT.slot {e : TypeId} {W V : World} {n k : Nat} {f : Nat → Int} (h : RwT e W V n k f) (j : Nat) (hj : j < n) : ∃ u, V.cell? ⟨W.heap.size, j, none⟩ = some u ∧ V.frozen? ⟨W.heap.size, j, none⟩ = false := by
  obtain ⟨zs, hf, hz⟩ := h.row
  obtain ⟨b, off, e, hb, hc⟩ := hf.rd.cells (by omega)
  cases e
  have c := hc j hj
  rw [Nat.zero_add] at c
  rcases hf.own.2 with ⟨e1, h0⟩ | ⟨g, c, cur, e1, hB2, hg, r⟩
  · cases e1
  · cases e1
    exact ⟨_, c, frozen_of_row V W.heap.size j _ _ hg⟩
theorem RwT.set {e : TypeId} {W V : World} {n k : Nat} {f : Nat → Int} (h : RwT e W V n k f) (hk : k < n) (h1 : -9223372036854775808 ≤ f k) (h2 : f k ≤ 9223372036854775807) : RwT e W (V.setCell ⟨W.heap.size, k, none⟩ (.int .i64 (f k))) n (k + 1) f := by
  obtain ⟨zs, hf, hz, hr⟩ := h.row
  refine ⟨h.bel.setCell (p := ⟨W.heap.size, k, none⟩) (Nat.le_refl _) _, _, hf.setT k hk (f k) h1 h2, fun j hj => ?_, fun j hj hj2 => ?_⟩
  · rw [nth_setL (by rw [hf.rd.len]; exact hk)]
    split
    · rename_i e; rw [e]
    · exact hz j (by omega)
  · rw [nth_setL (by rw [hf.rd.len]; exact hk), if_neg (by omega)]
    exact hr j (by omega) hj2
theorem RwT.skip {e : TypeId} {W V : World} {n k : Nat} {f : Nat → Int} (h : RwT e W V n k f) (hk : k < n) (h0 : f k = 0) : RwT e W V n (k + 1) f := by
  obtain ⟨zs, hf, hz, hr⟩ := h.row
  refine ⟨h.bel, zs, hf, fun j hj => ?_, fun j hj hj2 => hr j (by omega) hj2⟩
  rcases Nat.lt_succ_iff_lt_or_eq.1 hj with h | h
  · exact hz j h
  · rw [h, h0]; exact hr k (Nat.le_refl _) hk
theorem RwT.all {e : TypeId} {W V : World} {n : Nat} {f : Nat → Int} (h : RwT e W V n n f) (ys : List Int) (hl : ys.length = n) (hy : ∀ j, j < n → nth ys j = f j) : Ft e V W.heap.size (some ⟨W.heap.size, 0, none⟩) n n ys := by
  obtain ⟨zs, hf, hz, hr⟩ := h.row
  have e : zs = ys := ext_nth (by rw [hf.rd.len, hl]) (fun k hk => by rw [hf.rd.len] at hk; rw [hz k hk, hy k hk])
  rw [← e]; exact hf

theorem bx4 {W : World} {g : Nat} {a b c d : Value} {t : TypeId} (h : W.heap[g]? = some (.cells #[a, b, c, d] t (0, 0))) :
    W.cell? ⟨g, 0, none⟩ = some a ∧ W.cell? ⟨g, 1, none⟩ = some b ∧ W.cell? ⟨g, 2, none⟩ = some c ∧ W.cell? ⟨g, 3, none⟩ = some d ∧ W.frozen? ⟨g, 0, none⟩ = false ∧ W.frozen? ⟨g, 1, none⟩ = false ∧ W.frozen? ⟨g, 2, none⟩ = false ∧ W.frozen? ⟨g, 3, none⟩ = false :=
  ⟨(cell_of_row W g 0 _ t (0, 0) h).trans rfl, (cell_of_row W g 1 _ t (0, 0) h).trans rfl, (cell_of_row W g 2 _ t (0, 0) h).trans rfl, (cell_of_row W g 3 _ t (0, 0) h).trans rfl, frozen_of_row W g 0 _ t h, frozen_of_row W g 1 _ t h, frozen_of_row W g 2 _ t h, frozen_of_row W g 3 _ t h⟩
theorem infoI3 : (Tryz.prog.info? 3).map (fun i => (i.zero, i.size, i.bytes)) = some (some (.int .i64 0), 1, 8) := by kernel_rfl

/-- Between two rounds of below: the axis lies in its box. -/
structure Bl (w W : World) (len wid stp K : Nat) (cs : Array Value) : Prop where
  bel : Below w.heap.size w W
  box : W.heap[w.heap.size]? = some (.cells #[.int .i64 (len : Nat), .int .i64 (wid : Nat), .int .i64 (stp : Nat), .func (.func K) #[] cs] 89 (0, 0))
theorem Bl.below {w W W' : World} {len wid stp K B : Nat} {cs : Array Value} (h : Bl w W len wid stp K cs) (hb : Below B W W') (hB : w.heap.size < B) : Bl w W' len wid stp K cs :=
  ⟨h.bel.trans (hb.mono (by omega)), (hb.block _ hB).trans h.box⟩
theorem range_snoc (i : Nat) (g : Nat → Int) : (List.range i).map g ++ [g i] = (List.range (i + 1)).map g := by
  rw [List.range_succ, List.map_append]; rfl
theorem alg_bd {p B : Int} {wid stp i : Nat} {f : Nat → Int} (hw : wid ≤ 4096) (hs : stp ≤ 4096) (p1 : -1 ≤ p) (p2 : p ≤ B) : -1 ≤ alg ⟨0, wid, stp, f⟩ p i ∧ alg ⟨0, wid, stp, f⟩ p i ≤ max B (-1) + 16777216 := by
  unfold alg
  dsimp only
  split
  · omega
  · obtain ⟨a, b⟩ := mul_bd (q := f i) (s := stp) (by omega) (by omega) hs
    omega

set_option maxHeartbeats 4000000 in
set_option maxRecDepth 20000 in
theorem below_any (po : Option Addr) (pn pc len wid stp K : Nat) (cs : Array Value) (ps : List Int) (f : Nat → Int) (w : World) (h : Rd w po pn ps) (hl : len ≤ 4096) (hn : pn * len ≤ 4096) (hw : wid ≤ 4096) (hs : stp ≤ 4096) (hp : inPl 1099511627776 ps) (bs : List Nat) (hbs : ∀ b, b ∈ bs → b < w.heap.size) (hway : Way w bs wid stp f (.func (.func K) #[] cs)) :
    Calls Tryz.prog 94 #[.agg #[.int .i64 (len : Nat), .int .i64 (wid : Nat), .int .i64 (stp : Nat), .func (.func K) #[] cs], .slice po pn pc] w fun e w' => ∃ oo oc, e = .returned (.slice oo (pn * len) oc) ∧ Ft 3 w' w.heap.size oo (pn * len) oc (blw ⟨len, wid, stp, f⟩ ps) ∧ Below w.heap.size w w' := by
  have hroom := h.room
  have hps : Hid (∀ k, k < pn → -1 ≤ nth ps k ∧ nth ps k ≤ 1099511627776) := fun k hk => hp _ (nth_mem (by rw [h.len]; exact hk))
  have HL : Hid (ps.length = pn) := h.len
  have hmk := run_make_room (P := Tryz.prog) 23 3 (.int .i64 0) 8 Tryz.underlying23 infoI3 rfl .i64 .i64 (pn * len) (by omega) (by omega)
  have hmk' : ∀ X : World, (Instr.makeSlice 23 (.int .i64 0) (.int .i64 ((pn : Int) * (len : Int)))).run Tryz.prog X = .ok (.slice (some ⟨X.heap.size, 0, none⟩) 0 (pn * len)) (X.alloc (.cells (madeCells #[.int .i64 0] (pn * len)) 3)) := fun X => by simpa using hmk X
  have hcap : ((pn * len : Nat) : Int) = (pn : Int) * (len : Int) := Int.natCast_mul _ _
  have hwm := wr (z := (pn : Int) * (len : Int)) (by omega) (by omega)
  have B0 : Bl w (w.alloc (.cells #[.int .i64 (len : Nat), .int .i64 (wid : Nat), .int .i64 (stp : Nat), .func (.func K) #[] cs] 89)) len wid stp K cs := ⟨box_below w _, allocNew w _⟩
  have f0 := room_ftT 3 (w.alloc (.cells #[.int .i64 (len : Nat), .int .i64 (wid : Nat), .int .i64 (stp : Nat), .func (.func K) #[] cs] 89)) (pn * len) (by omega)
  have B1 := B0.below (box_below _ (.cells (madeCells #[.int .i64 0] (pn * len)) 3)) (by simp)
  rw [World.size_alloc] at f0
  have HN : Hid (pn * len ≤ 4096) := hn
  clear hmk hcap hp hn B0
  go_enter Tryz.func94, Tryz.ntmps94
  go_wp2
  go_loopw [5, 17] (fun s i V => ∃ (k : Nat) (oo : Option Addr) (oc : Nat), k ≤ pn ∧ i = .int .i64 (k : Nat) ∧ s = .slice oo (k * len) oc ∧ Ft 3 V (w.heap.size + 1) oo (k * len) oc (blw ⟨len, wid, stp, f⟩ (ps.take k)) ∧ Bl w V len wid stp K cs) (fun _ i _ => pn - (intOf i).toNat)
  case atStart => exact ⟨0, _, _, Nat.zero_le _, rfl, by rw [Nat.zero_mul], by rw [Nat.zero_mul]; exact f0, B1⟩
  case round =>
    obtain ⟨k, oo, oc, hk, rfl, rfl, fo, Bk⟩ := hrel
    clear f0 B1 hmk'
    by_cases hlt : k < pn
    · obtain ⟨b, off, rfl, hb, hc⟩ := (h.below Bk.bel (Nat.le_refl _)).cells (by omega)
      have c1 := hc k hlt
      obtain ⟨x0, x1, x2, x3, _⟩ := bx4 Bk.box
      have hx := hps.out k hlt
      have hkm : Hid (k * len + len ≤ 4096) := by
        have := Nat.mul_le_mul_right len (show k + 1 ≤ pn by omega)
        rw [Nat.succ_mul] at this
        exact Nat.le_trans this HN.out
      clear hc
      go_wp2
      generalize hM : k * len = M at *
      go_loopw [5, 23] (fun s i V => ∃ (j : Nat) (o2 : Option Addr) (c2 : Nat), j ≤ len ∧ i = .int .i64 (j : Nat) ∧ s = .slice o2 (M + j) c2 ∧ Ft 3 V (w.heap.size + 1) o2 (M + j) c2 (blw ⟨len, wid, stp, f⟩ (ps.take k) ++ (List.range j).map (alg ⟨len, wid, stp, f⟩ (nth ps k))) ∧ Bl w V len wid stp K cs) (fun _ i _ => len - (intOf i).toNat)
      case atStart => exact ⟨0, oo, oc, Nat.zero_le _, rfl, rfl, by simpa using fo, Bk⟩
      case round =>
        obtain ⟨j, o2, c2, hj, rfl, rfl, f2, B2⟩ := hrel
        clear x0 x1 x2 x3 fo Bk
        obtain ⟨x0, x1, x2, x3, _⟩ := bx4 B2.box
        by_cases hlt2 : j < len
        · have hal := hway _ (fun b m => B2.bel.block b (hbs b m)) (len : Int) (nth ps k) j hx.1 hx.2 (by omega)
          have hbd := alg_bd (f := f) (i := j) hw hs hx.1 hx.2
          have l2 := (Array.getElem?_eq_some_iff.1 B2.box).1
          go_wp2_with (first
            | (go_at_call 109; refine hal.mono ?_; rintro e w2 ⟨rfl, k2⟩)
            | (at_builtin; refine wpList_joinT tyI rfl _ _ rfl (w.heap.size + 1) o2 (some ⟨w2.heap.size, 0, none⟩) (M + j) c2 1 1 _ [alg ⟨0, wid, stp, f⟩ (nth ps k) j] rfl rfl ((f2.below k2 (Nat.le_refl _)).below (box_below w2 _) (Nat.le_refl _)) (ft_new 3 w2 [alg ⟨0, wid, stp, f⟩ (nth ps k) j] (by simp) (num1 (by omega) (by omega))).rd (ft_new 3 w2 [alg ⟨0, wid, stp, f⟩ (nth ps k) j] (by simp) (num1 (by omega) (by omega))).sl (by have := hkm.out; omega) (by have := k2.size; simp; omega) ?_; intro co3 c3 w3 f3 b3))
          go_roundw
          case rel =>
            have e : (blw ⟨len, wid, stp, f⟩ (ps.take k) ++ (List.range j).map (alg ⟨len, wid, stp, f⟩ (nth ps k))) ++ [alg ⟨0, wid, stp, f⟩ (nth ps k) j] = blw ⟨len, wid, stp, f⟩ (ps.take k) ++ (List.range (j + 1)).map (alg ⟨len, wid, stp, f⟩ (nth ps k)) := by
              rw [List.append_assoc]; exact congrArg _ (range_snoc j _)
            rw [e] at f3
            exact ⟨j + 1, co3, c3, by omega, by go_num, rfl, f3, ((B2.below k2 l2).below (box_below w2 _) (by have := k2.size; omega)).below b3 (by omega)⟩
          case measure => simp [intOf]; omega
        · obtain rfl : j = len := by omega
          go_wp2
          go_roundw
          case rel =>
            have e : blw ⟨j, wid, stp, f⟩ (ps.take k) ++ (List.range j).map (alg ⟨j, wid, stp, f⟩ (nth ps k)) = blw ⟨j, wid, stp, f⟩ (ps.take (k + 1)) := by
              rw [take_nth (by rw [HL.out]; exact hlt), blw_snoc]
            rw [e] at f2
            refine ⟨k + 1, o2, c2, by omega, by go_num, ?_, ?_, B2⟩
            · rw [Nat.succ_mul, hM]
            · rw [Nat.succ_mul, hM]; exact f2
          case measure => simp [intOf]; omega
    · obtain rfl : k = pn := by omega
      go_wp2
      go_ret
      rw [List.take_of_length_le (by rw [HL.out]; exact Nat.le_refl _)] at fo
      exact ⟨_, _, rfl, fo.mono (by omega), Bk.bel⟩
end Go.Proofs.YtldhochafkcpiaaGreat
