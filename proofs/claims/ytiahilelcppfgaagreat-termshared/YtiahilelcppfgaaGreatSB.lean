
/- The document's row of nodes. -/

import Derived.Test.YtiahilelcppfgaaGreatSA

import Derived.Test.YtiahilelcppfgaaGreatYTr

import Derived.Deep.DeepAppendRoom

namespace Go.Proofs.YtiahilelcppfgaaGreat

open Go.RowKit

set_option linter.unusedVariables false

theorem infoZ : (Tryz.prog.info? 77).map (fun i => (i.zero, i.size, i.bytes)) = some (some (Value.agg #[.int .i64 0, .string ⟨#[]⟩, .int .i64 0, .slice none 0 0, .slice none 0 0, .slice none 0 0, .int .i64 0, .bool false]), 8, 120) := by kernel_rfl
set_option maxRecDepth 100000 in
/-- A node more: the list, and what the old one's cells hold. -/
theorem run_joinZ {w : World} (tt : TypeId) (B vb : Nat) (go : Option Addr) (n gc : Nat) (cs : List Value) (v0 v1 v2 v3 v4 v5 v6 v7 : Value) (h1 : ∀ u ∈ [v0, v1, v2, v3, v4, v5, v6, v7], u.oneCell' = true)
    (h : w.ownsRow B 77 8 (.slice go n gc) n cs) (hv : w.heap[vb]? = some (.cells #[v0, v1, v2, v3, v4, v5, v6, v7] 77 (0, 0))) (hn : n ≤ 5000) (hB : B ≤ w.heap.size) :
    ∃ co c w', (Builtin.append_ #[72, 72] tt #[.slice go n gc, .slice (some ⟨vb, 0, none⟩) 1 1]).run Tryz.prog w = .ok (.slice co (n + 1) c) w' ∧ w'.ownsRow B 77 8 (.slice co (n + 1) c) (n + 1) (cs ++ [v0, v1, v2, v3, v4, v5, v6, v7]) ∧ w.grownBy w' (Value.slice go n gc).ownBlock ∧ (∀ g, go = some ⟨g, 0, none⟩ → ∀ j, j < n * 8 → w'.cell? ⟨g, j, none⟩ = w.cell? ⟨g, j, none⟩) := by
  obtain ⟨i0, hi, hz0, hz1, hz2⟩ := info_parts infoZ
  have cc : ∀ k, w.cell? ⟨vb, k, none⟩ = _ := fun k => cell_of_row w vb k _ _ _ hv
  have hnew : ∀ (j : Nat) (u : Value), [v0, v1, v2, v3, v4, v5, v6, v7][j]? = some u → w.cell? ((⟨vb, 0, none⟩ : Addr).add j) = some u := fun j q hq => by
    rw [add_at, Nat.zero_add, cc j, ← hq]
    simp
  obtain ⟨v', w', hrun, hown, hgrow, _, hat⟩ := run_append_own_at (P := Tryz.prog) w B 72 tt 77 i0 _ 8 120 Tryz.underlying72 hi hz0 hz1 hz2 rfl (by decide) _ n _ h ⟨vb, 0, none⟩ 1 1 [v0, v1, v2, v3, v4, v5, v6, v7] rfl hnew h1 (by unfold maxLen; omega) (by omega) hB
  rcases hown.2 with ⟨e, h0⟩ | ⟨g, c, cur, e, _⟩
  · omega
  subst e
  refine ⟨_, _, w', hrun, hown, hgrow, ?_⟩
  rintro g' rfl j hj
  rcases h.2 with ⟨e1, h0⟩ | ⟨g1, cap, cur1, e1, hB1, hg1, hnc, hcm, hcs, ht⟩
  · omega
  injection e1 with e1 e2 e3
  injection e1 with e1
  injection e1 with e1
  subst e1 e3
  have hcs0 : cs.length = n * 8 := h.1
  have old : w.cell? ⟨g', j, none⟩ = cs[j]? := by rw [cell_of_row w g' j cur1 _ _ hg1, ← ht, List.getElem?_take_of_lt hj, Array.getElem?_toList]
  by_cases hroom : n + 1 ≤ gc
  · obtain ⟨w2, hr2, ho2, _⟩ := run_append_own_spare (P := Tryz.prog) w B 72 tt 77 i0 8 Tryz.underlying72 hi hz1 g' n gc cs h ⟨vb, 0, none⟩ 1 1 [v0, v1, v2, v3, v4, v5, v6, v7] rfl hnew h1 hroom
    rw [hrun] at hr2
    injection hr2 with _ hw2
    subst hw2
    rcases ho2.2 with ⟨e4, _⟩ | ⟨g3, cap3, cur3, e4, _, hg3, _, _, _, ht3⟩
    · cases e4
    · injection e4 with e4
      injection e4 with e4
      injection e4 with e4
      subst e4
      rw [cell_of_row w' g' j cur3 _ _ hg3, old, ← Array.getElem?_toList, ← List.getElem?_take_of_lt (i := j) (j := (n + 1) * 8) (by omega), ht3, List.getElem?_append_left (by omega)]
  · have hr2 := run_append_grow (P := Tryz.prog) w 72 tt 77 i0 _ Tryz.underlying72 hi hz0 ⟨g', 0, none⟩ n gc cs (by rw [hz1]; exact h.1) (fun j u hu => by
        have hj : j < n * 8 := by rw [← hcs0]; exact (List.getElem?_eq_some_iff.1 hu).1
        rw [add_at, Nat.zero_add, cell_of_row w g' j cur1 _ _ hg1, ← Array.getElem?_toList, ← List.getElem?_take_of_lt hj, ht]; exact hu) ⟨vb, 0, none⟩ 1 1 [v0, v1, v2, v3, v4, v5, v6, v7] (by rw [hz1]; rfl) hnew (by omega) (by omega) (growslice_fits (by omega) (by rw [hz2]; omega))
    rw [hrun] at hr2
    injection hr2 with _ hw2
    rw [hw2]
    simp only [World.cell?]
    rw [heap_alloc_old w.drew _ (Array.getElem?_eq_some_iff.1 hg1).1]
    rfl
/-- A node more. -/
theorem step_joinZ {ops : Array Oper} {o : Oper} {a : Act} {w : World} {K : Act → World → Prop} {Q : Exit → Act → World → Prop} {E : Prop}
    (hg : o.guard = none) (p x : Operand) (ho : o.op = .call { callee := .builtin .append, args := #[p, x], argTypes := #[72, 72] }) (B vb : Nat) (go : Option Addr) (n gc : Nat) (cs : List Value) (v0 v1 v2 v3 v4 v5 v6 v7 : Value) (h1 : ∀ u ∈ [v0, v1, v2, v3, v4, v5, v6, v7], u.oneCell' = true)
    (hs : a.eval p = .slice go n gc) (hx : a.eval x = .slice (some ⟨vb, 0, none⟩) 1 1)
    (h : w.ownsRow B 77 8 (.slice go n gc) n cs) (hv : w.heap[vb]? = some (.cells #[v0, v1, v2, v3, v4, v5, v6, v7] 77 (0, 0))) (hn : n ≤ 5000) (hB : B ≤ w.heap.size)
    (hK : ∀ co c w', w'.ownsRow B 77 8 (.slice co (n + 1) c) (n + 1) (cs ++ [v0, v1, v2, v3, v4, v5, v6, v7]) → w.grownBy w' (Value.slice go n gc).ownBlock → (∀ g, go = some ⟨g, 0, none⟩ → ∀ j, j < n * 8 → w'.cell? ⟨g, j, none⟩ = w.cell? ⟨g, j, none⟩) → K (a.put o.dst (.slice co (n + 1) c)) w') :
    if Region.wanted o (yielded ops a.tmps) = true then Oper.wp Tryz.prog o a w K Q else E := by
  have hw : Region.wanted o (yielded ops a.tmps) = true := by simp [Region.wanted, hg]
  rw [if_pos hw]
  obtain ⟨co, c, w', hrun, hown, hgrow, hkeep⟩ := run_joinZ o.type B vb go n gc cs v0 v1 v2 v3 v4 v5 v6 v7 h1 h hv hn hB
  unfold Oper.wp
  simp [execOp, ho, resolve, invoke, builtin, hs, hx, hrun, Result.andThen]
  exact hK _ _ _ hown hgrow hkeep
/-- A list of nodes of a call's own. -/
structure Rn (w0 w V : World) (o : Option Addr) (c : Nat) (l : List Nz) (vals : List Value) : Prop where
  bel : Below w.heap.size w V
  own : V.ownsRow w.heap.size 77 8 (.slice o l.length c) l.length vals
  nodes : ∀ i z, l[i]? = some z → ∃ c0 c1 c2 c3 c4 c5, Tv w0 (z.d + 1) z.x [c0, c1, c2, c3, c4, c5] ∧ vals[i * 8]? = some c0 ∧ vals[i * 8 + 1]? = some c1 ∧ vals[i * 8 + 2]? = some c2 ∧ vals[i * 8 + 3]? = some c3 ∧ vals[i * 8 + 4]? = some c4 ∧ vals[i * 8 + 5]? = some c5 ∧ vals[i * 8 + 6]? = some (.int .i64 (z.dp : Nat)) ∧ vals[i * 8 + 7]? = some (.bool z.b)
theorem own_cell8 {V : World} {B m c : Nat} {o : Option Addr} {vals : List Value} {e : TypeId} (h : V.ownsRow B e 8 (.slice o m c) m vals) (h0 : 0 < m) : ∃ G, o = some ⟨G, 0, none⟩ ∧ B ≤ G ∧ G < V.heap.size ∧ ∀ j, j < m * 8 → V.cell? ⟨G, j, none⟩ = vals[j]? := by
  rcases h.2 with ⟨_, e0⟩ | ⟨g, cap, cur, e1, hB, hg, hnc, _, hcs, ht⟩
  · omega
  · injection e1 with e1 e2 e3
    subst e1 e3
    exact ⟨g, rfl, hB, (Array.getElem?_eq_some_iff.1 hg).1, fun j hj => by rw [cell_of_row V g j cur _ _ hg, ← ht, List.getElem?_take_of_lt hj, Array.getElem?_toList]⟩
theorem Rn.push {w0 w V X V3 : World} {o o' : Option Addr} {c c' : Nat} {l : List Nz} {vals : List Value} {z : Nz} {v0 v1 v2 v3 v4 v5 : Value} (h : Rn w0 w V o c l vals) (tz : Tv w0 (z.d + 1) z.x [v0, v1, v2, v3, v4, v5]) (bx : Below V.heap.size V X)
    (hown : V3.ownsRow w.heap.size 77 8 (.slice o' (l.length + 1) c') (l.length + 1) (vals ++ [v0, v1, v2, v3, v4, v5, .int .i64 (z.dp : Nat), .bool z.b])) (gr : X.grownBy V3 (Value.slice o l.length c).ownBlock) : Rn w0 w V3 o' c' (l ++ [z]) (vals ++ [v0, v1, v2, v3, v4, v5, .int .i64 (z.dp : Nat), .bool z.b]) := by
  have hlen : vals.length = l.length * 8 := h.own.1
  have hge : ∀ q, (Value.slice o l.length c).ownBlock = some q → w.heap.size ≤ q := fun q e => (own_atb h.own q e).1
  refine ⟨(h.bel.trans (bx.mono h.bel.size)).grown gr (Nat.le_trans h.bel.size bx.size) hge, by rw [List.length_append]; exact hown, fun i y hy => ?_⟩
  by_cases hi : i < l.length
  · rw [List.getElem?_append_left hi] at hy
    obtain ⟨c0, c1, c2, c3, c4, c5, q, q0, q1, q2, q3, q4, q5, q6, q7⟩ := h.nodes i y hy
    refine ⟨c0, c1, c2, c3, c4, c5, q, ?_, ?_, ?_, ?_, ?_, ?_, ?_, ?_⟩ <;> (rw [List.getElem?_append_left (by omega)]; assumption)
  · have hl : i < (l ++ [z]).length := (List.getElem?_eq_some_iff.1 hy).1
    rw [List.length_append, List.length_singleton] at hl
    obtain rfl : i = l.length := by omega
    rw [List.getElem?_append_right (Nat.le_refl _), Nat.sub_self] at hy
    injection hy with hy
    subst hy
    have at' : ∀ j, (vals ++ [v0, v1, v2, v3, v4, v5, .int .i64 (z.dp : Nat), .bool z.b])[l.length * 8 + j]? = [v0, v1, v2, v3, v4, v5, Value.int .i64 (z.dp : Nat), .bool z.b][j]? := fun j => by
      rw [List.getElem?_append_right (by omega), hlen, Nat.add_sub_cancel_left]
    exact ⟨v0, v1, v2, v3, v4, v5, tz, at' 0, at' 1, at' 2, at' 3, at' 4, at' 5, at' 6, at' 7⟩
/-- What Row hands out. -/
def RowP (w0 w : World) (R : Option (List Nz)) (e : Ending) (w' : World) : Prop := match R with
  | none => e = .returned (.tuple #[.slice none 0 0, .bool false]) ∧ Below w.heap.size w w'
  | some m => ∃ o c vals, e = .returned (.tuple #[.slice o m.length c, .bool true]) ∧ Rn w0 w w' o c m vals
theorem kidsZ_kid (z : Nz) (k : Nat) (h : k < z.x.ks.length) {W : World} {ko : Option Addr} (hk : Kq (Tv W z.d) W ko z.x.ks) : ∃ y, (kidsZ z)[k]? = some y ∧ y.dp = z.dp + 1 ∧ y.b = bareZ z ∧ ∃ b off, ko = some ⟨b, off, none⟩ ∧ b < W.heap.size ∧ ∃ c0 c1 c2 c3 c4 c5, Tv W (y.d + 1) y.x [c0, c1, c2, c3, c4, c5] ∧ W.cell? ⟨b, off + k * 6, none⟩ = some c0 ∧ W.cell? ⟨b, off + k * 6 + 1, none⟩ = some c1 ∧ W.cell? ⟨b, off + k * 6 + 2, none⟩ = some c2 ∧ W.cell? ⟨b, off + k * 6 + 3, none⟩ = some c3 ∧ W.cell? ⟨b, off + k * 6 + 4, none⟩ = some c4 ∧ W.cell? ⟨b, off + k * 6 + 5, none⟩ = some c5 := by
  obtain ⟨b, off, e, hb, hc⟩ := hk.cells (by omega)
  match z, h, hk, hc with
  | ⟨0, x, dp, b'⟩, h, _, _ => rw [ks_zero] at h; exact absurd h (Nat.not_lt_zero _)
  | ⟨d + 1, x, dp, b'⟩, h, _, hc =>
    obtain ⟨c0, c1, c2, c3, c4, c5, hv, q⟩ := hc k _ (List.getElem?_eq_getElem h)
    exact ⟨⟨d, x.ks[k], dp + 1, bareZ ⟨d + 1, x, dp, b'⟩⟩, by simp only [kidsZ, List.getElem?_map, List.getElem?_eq_getElem h]; rfl, rfl, rfl, b, off, e, hb, c0, c1, c2, c3, c4, c5, hv, q⟩
set_option linter.unusedSimpArgs false in
set_option maxRecDepth 100000 in
set_option maxHeartbeats 8000000 in
theorem row_any (d : Nat) (x : Tr (d + 1)) (v0 v1 v2 v3 v4 v5 : Value) (w0 w : World) (h : Tv w0 (d + 1) x [v0, v1, v2, v3, v4, v5]) (hw : Below w0.heap.size w0 w) :
    Calls Tryz.prog 49 #[.agg #[v0, v1, v2, v3, v4, v5]] w fun e w' => RowP w0 w (rowT d x) e w' := by
  obtain ⟨k, t, n, so0, sn0, sc0, ao0, an0, ac0, uo0, un0, uc0, ev⟩ := h.form
  injection ev with ev0 ev
  injection ev with ev1 ev
  injection ev with ev2 ev
  injection ev with ev3 ev
  injection ev with ev4 ev
  injection ev with ev5 ev
  subst ev0 ev1 ev2 ev3 ev4 ev5
  have k0 := box_below w (.cells #[.int .i64 k, .string t, .int .i64 n, .slice so0 sn0 sc0, .slice ao0 an0 ac0, .slice uo0 un0 uc0] 31)
  have r0 := allocNew w (.cells #[.int .i64 k, .string t, .int .i64 n, .slice so0 sn0 sc0, .slice ao0 an0 ac0, .slice uo0 un0 uc0] 31)
  obtain ⟨q0, q1, q2, q3, q4, q5⟩ := box6 r0
  have kx := box_below (w.alloc (.cells #[.int .i64 k, .string t, .int .i64 n, .slice so0 sn0 sc0, .slice ao0 an0 ac0, .slice uo0 un0 uc0] 31)) (.cells #[.int .i64 k, .string t, .int .i64 n, .slice so0 sn0 sc0, .slice ao0 an0 ac0, .slice uo0 un0 uc0, .int .i64 1, .bool false] 77)
  have rx := allocNew (w.alloc (.cells #[.int .i64 k, .string t, .int .i64 n, .slice so0 sn0 sc0, .slice ao0 an0 ac0, .slice uo0 un0 uc0] 31)) (.cells #[.int .i64 k, .string t, .int .i64 n, .slice so0 sn0 sc0, .slice ao0 an0 ac0, .slice uo0 un0 uc0, .int .i64 1, .bool false] 77)
  rw [World.size_alloc] at rx
  have R0 : Rn w0 w ((w.alloc (.cells #[.int .i64 k, .string t, .int .i64 n, .slice so0 sn0 sc0, .slice ao0 an0 ac0, .slice uo0 un0 uc0] 31)).alloc (.cells #[.int .i64 k, .string t, .int .i64 n, .slice so0 sn0 sc0, .slice ao0 an0 ac0, .slice uo0 un0 uc0, .int .i64 1, .bool false] 77)) (some ⟨w.heap.size + 1, 0, none⟩) 1 [⟨d, x, 1, false⟩] [.int .i64 k, .string t, .int .i64 n, .slice so0 sn0 sc0, .slice ao0 an0 ac0, .slice uo0 un0 uc0, .int .i64 1, .bool false] := by
    refine ⟨k0.trans (kx.mono k0.size), ⟨rfl, .inr ⟨w.heap.size + 1, 1, _, rfl, Nat.le_succ _, rx, Nat.le_refl _, by unfold maxLen; omega, rfl, rfl⟩⟩, fun i z hz => ?_⟩
    match i, hz with
    | 0, hz => cases hz; exact ⟨_, _, _, _, _, _, h, rfl, rfl, rfl, rfl, rfl, rfl, rfl, rfl⟩
    | i + 1, hz => cases hz
  obtain ⟨R, hR⟩ : ∃ R, R = rowT d x := ⟨_, rfl⟩
  have HR0 : Hid (rowF (4097 - 0) 0 [⟨d, x, 1, false⟩] = R) := by rw [hR]; rfl
  rw [← hR]
  clear hR kx rx k0 r0 h
  go_enter Tryz.func49, Tryz.ntmps49
  go_upto_region 2 with fail
  generalize (w.alloc (.cells #[.int .i64 k, .string t, .int .i64 n, .slice so0 sn0 sc0, .slice ao0 an0 ac0, .slice uo0 un0 uc0] 31)).alloc (.cells #[.int .i64 k, .string t, .int .i64 n, .slice so0 sn0 sc0, .slice ao0 an0 ac0, .slice uo0 un0 uc0, .int .i64 1, .bool false] 77) = w1 at *
  clear q0 q1 q2 q3 q4 q5
  go_wp2
  go_loopw [4, 5] (fun lv iv V => ∃ (i : Nat) (l : List Nz) (o : Option Addr) (c : Nat) (vals : List Value), lv = .slice o l.length c ∧ iv = .int .i64 (i : Nat) ∧ Hid (rowF (4097 - i) i l = R) ∧ i ≤ l.length ∧ l.length ≤ 4096 ∧ 0 < l.length ∧ Rn w0 w V o c l vals) (fun _ iv _ => 4097 - (intOf iv).toNat)
  case atStart => exact ⟨0, _, _, _, _, rfl, rfl, HR0, Nat.zero_le _, by simp, by simp, R0⟩
  case round =>
    obtain ⟨i, l, o, c, vals, rfl, rfl, HF, hi, hl, hl0, N⟩ := hrel
    clear R0 HR0
    have hzz : rowF (4097 - i) i l = R := HF.out
    by_cases hlt : i < l.length
    · obtain ⟨z, hz⟩ : ∃ z, l[i]? = some z := ⟨l[i]'hlt, by simp⟩
      rw [show 4097 - i = (4096 - i) + 1 by omega, rowF_some hz] at hzz
      obtain ⟨c0, c1, c2, c3, c4, c5, tz, p0, p1, p2, p3, p4, p5, p6, p7⟩ := N.nodes i z hz
      obtain ⟨G, rfl, hGB, hGV, hcell⟩ := own_cell8 N.own hl0
      obtain ⟨⟨so, sn, sc, ao, an, ac, ko, kc, ev, h1, h2, h3, h4, hk, hks⟩, hkb, hnb, htb⟩ := tz
      injection ev with ev0 ev
      injection ev with ev1 ev
      injection ev with ev2 ev
      injection ev with ev3 ev
      injection ev with ev4 ev
      injection ev with ev5 ev
      subst ev0 ev1 ev2 ev3 ev4 ev5
      have e0 := (hcell (i * 8) (by omega)).trans p0
      have e2 := (hcell (i * 8 + 2) (by omega)).trans p2
      have e5 := (hcell (i * 8 + 5) (by omega)).trans p5
      have e6 := (hcell (i * 8 + 6) (by omega)).trans p6
      have e7 := (hcell (i * 8 + 7) (by omega)).trans p7
      have hnk : z.x.ks.length * 104 ≤ 140737488351232 := hk.room
      have HK : Hid (Kq (Tv w0 z.d) w0 ko z.x.ks) := hk
      have HB : Hid (bareZ z = if z.x.nd.k = 23 then decide (z.x.nd.n = 1) else z.b) := rfl
      have HN : Hid (Rn w0 w wr (some ⟨G, 0, none⟩) c l vals) := N
      have Nbel := N.bel
      have HZ : Hid (l[i]? = some z) := hz
      clear h1 h2 h3 h4 hk hks hkb hnb htb p0 p1 p2 p3 p4 p5 p6 p7 hcell N hz HF
      obtain ⟨LN, hLN⟩ : ∃ LN, LN = l.length := ⟨_, rfl⟩
      obtain ⟨nk, hnkq⟩ : ∃ nk, nk = z.x.ks.length := ⟨_, rfl⟩
      rw [← hLN] at hl hlt hl0 hi hzz ⊢
      rw [← hnkq] at hzz hnk e5
      obtain ⟨dp, hdpq⟩ : ∃ dp, dp = z.dp := ⟨_, rfl⟩
      rw [← hdpq] at hzz e6
      generalize hkk : z.x.nd.k = kk at *
      generalize hnn : z.x.nd.n = nn at *
      generalize hzb : z.b = zb at *
      have HLk : Hid ((kidsZ z).length = nk) := by rw [hnkq]; exact kidsZ_len z
      have HLN : Hid (LN = l.length) := hLN
      have Hnk : Hid (nk = z.x.ks.length) := hnkq
      have Hdp : Hid (dp = z.dp) := hdpq
      clear hLN hnkq hdpq
      have t3 : decide ((i : Int) < (LN : Int)) = true := by simp; omega
      have bi : (i : Int) < (LN : Int) := by omega
      by_cases hdp : 256 < dp
      · have t4 : decide ((256 : Int) < (dp : Int)) = true := by simp; omega
        have t4' : decide (256 < dp) = true := by simp; omega
        rw [if_pos (.inl hdp)] at hzz
        subst hzz
        go_wp2
        (try simp only [Exit.inBlock, Exit.then])
        refine bodyPost_ret (results_tmp2 rfl _ _ _) rfl ?_
        exact ⟨rfl, Nbel⟩
      have t4 : decide ((256 : Int) < (dp : Int)) = false := by simp; omega
      have ws : IntKind.i64.wrap ((LN : Int) + (nk : Int)) = (LN : Int) + (nk : Int) := wrT (by omega) (by omega)
      by_cases hbig : 4096 < LN + nk
      · have t5 : decide ((4096 : Int) < (LN : Int) + (nk : Int)) = true := by simp; omega
        have t4' : decide (256 < dp) = false := by simp; omega
        have t5' : decide (4096 < LN + nk) = true := by simp; omega
        rw [if_pos (.inr hbig)] at hzz
        subst hzz
        go_wp2
        (try simp only [Exit.inBlock, Exit.then])
        refine bodyPost_ret (results_tmp2 rfl _ _ _) rfl ?_
        exact ⟨rfl, Nbel⟩
      have t5 : decide ((4096 : Int) < (LN : Int) + (nk : Int)) = false := by simp; omega
      rw [if_neg (by omega)] at hzz
      have HFn : Hid (rowF (4096 - i) (i + 1) (l ++ kidsZ z) = R) := hzz
      have wi1 : IntKind.i64.wrap ((i : Int) + 1) = (i : Int) + 1 := wrT (by omega) (by omega)
      have HDP : Hid (dp ≤ 256) := by show _ ≤ _; omega
      clear hzz hdp
      obtain ⟨bb, hbb⟩ : ∃ bb, bb = bareZ z := ⟨_, rfl⟩
      have Hbb : Hid (bb = bareZ z) := hbb
      have hb2 : bb = if kk = 23 then decide (nn = 1) else zb := by rw [hbb]; exact HB.out
      clear hbb HB
      by_cases h23 : kk = 23
      · have t6 : (kk == 23) = true := by simp [h23]
        have t7 : (nn == 1) = bb := by rw [hb2, if_pos h23]; rfl
        clear h23 hb2
        go_upto_region 10 with fail
        clear t4 t5 ws e0 e2 e7 t6 bi t3
        go_wp2
        go_loopw [4, 7] (fun lv kv V => ∃ (j : Nat) (o : Option Addr) (c : Nat) (vals : List Value), lv = .slice o (LN + j) c ∧ kv = .int .i64 (j : Nat) ∧ j ≤ nk ∧ Rn w0 w V o c (l ++ (kidsZ z).take j) vals) (fun _ kv _ => nk - (intOf kv).toNat)
        case atStart => exact ⟨0, _, _, vals, rfl, rfl, Nat.zero_le _, by rw [List.take_zero, List.append_nil]; exact HN.out⟩
        case round =>
          obtain ⟨j, o, c, vals, rfl, rfl, hj, N1⟩ := hrel
          clear e5 e6
          have hlen : (l ++ (kidsZ z).take j).length = LN + j := by
            have := HLk.out
            have := HLN.out
            rw [List.length_append, List.length_take]; omega
          have hz1 : (l ++ (kidsZ z).take j)[i]? = some z := by
            rw [List.getElem?_append_left (by have := HLN.out; omega)]; exact HZ.out
          obtain ⟨d0, d1, d2, d3, d4, d5, tz1, p0, p1, p2, p3, p4, p5, p6, p7⟩ := N1.nodes i z hz1
          have own1 := N1.own
          rw [hlen] at own1
          obtain ⟨G1, rfl, hGB1, hGV1, hcell1⟩ := own_cell8 own1 (by omega)
          obtain ⟨⟨so1, sn1, sc1, ao1, an1, ac1, ko1, kc1, ev, h1, h2, h3, h4, hk1, hks1⟩, hkb1, hnb1, htb1⟩ := tz1
          injection ev with ev0 ev
          injection ev with ev1 ev
          injection ev with ev2 ev
          injection ev with ev3 ev
          injection ev with ev4 ev
          injection ev with ev5 ev
          subst ev0 ev1 ev2 ev3 ev4 ev5
          have e5 := (hcell1 (i * 8 + 5) (by omega)).trans p5
          have e6 := (hcell1 (i * 8 + 6) (by omega)).trans p6
          rw [← Hnk.out] at e5
          rw [← Hdp.out] at e6
          clear h1 h2 h3 h4 hks1 hkb1 hnb1 htb1 p0 p1 p2 p3 p4 p5 p6 p7 hcell1
          have bi : (i : Int) < ((LN + j : Nat) : Int) := by omega
          have bi' : (i : Int) < (LN : Int) + (j : Int) := by omega
          by_cases hlt2 : j < nk
          · have t3 : decide ((j : Int) < (nk : Int)) = true := by simp; omega
            have bj : (j : Int) < (nk : Int) := by omega
            obtain ⟨y, hy, hydp, hyb, kb, koff, rfl, hkl, k0, k1, k2, k3, k4, k5, ty, x0, x1, x2, x3, x4, x5⟩ := kidsZ_kid z j (by rw [← Hnk.out]; exact hlt2) hk1
            obtain ⟨m1, s1, n1, so, sn, sc, ao, an, ac, uo, un, uc, ev⟩ := ty.form
            injection ev with ev0 ev
            injection ev with ev1 ev
            injection ev with ev2 ev
            injection ev with ev3 ev
            injection ev with ev4 ev
            injection ev with ev5 ev
            subst ev0 ev1 ev2 ev3 ev4 ev5
            have bV := hw.trans (N1.bel.mono hw.size)
            have HS0 : (fun V : World => V.cell? ⟨G1, i * 8 + 5, none⟩ = some (.slice (some ⟨kb, koff, none⟩) nk kc1) ∧ V.cell? ⟨G1, i * 8 + 6, none⟩ = some (.int .i64 (dp : Nat)) ∧ V.cell? ⟨kb, koff + j * 6, none⟩ = some (.int .i64 m1) ∧ V.cell? ⟨kb, koff + j * 6 + 1, none⟩ = some (.string s1) ∧ V.cell? ⟨kb, koff + j * 6 + 2, none⟩ = some (.int .i64 n1) ∧ V.cell? ⟨kb, koff + j * 6 + 3, none⟩ = some (.slice so sn sc) ∧ V.cell? ⟨kb, koff + j * 6 + 4, none⟩ = some (.slice ao an ac) ∧ V.cell? ⟨kb, koff + j * 6 + 5, none⟩ = some (.slice uo un uc)) wr := ⟨e5, e6, (bV.cell (p := ⟨kb, koff + j * 6, none⟩) hkl).trans x0, (bV.cell (p := ⟨kb, koff + j * 6 + 1, none⟩) hkl).trans x1, (bV.cell (p := ⟨kb, koff + j * 6 + 2, none⟩) hkl).trans x2, (bV.cell (p := ⟨kb, koff + j * 6 + 3, none⟩) hkl).trans x3, (bV.cell (p := ⟨kb, koff + j * 6 + 4, none⟩) hkl).trans x4, (bV.cell (p := ⟨kb, koff + j * 6 + 5, none⟩) hkl).trans x5⟩
            have ty' := ty
            have bc := N1.bel
            have wdp : IntKind.i64.wrap ((dp : Int) + 1) = (dp : Int) + 1 := wrT (by have := HDP.out; omega) (by have := HDP.out; omega)
            have wj1 : IntKind.i64.wrap ((j : Int) + 1) = (j : Int) + 1 := wrT (by omega) (by omega)
            go_upto_region 13 with fail
            refine wp_region_R (fun V => V.cell? ⟨G1, i * 8 + 5, none⟩ = some (.slice (some ⟨kb, koff, none⟩) nk kc1) ∧ V.cell? ⟨G1, i * 8 + 6, none⟩ = some (.int .i64 (dp : Nat)) ∧ V.cell? ⟨kb, koff + j * 6, none⟩ = some (.int .i64 m1) ∧ V.cell? ⟨kb, koff + j * 6 + 1, none⟩ = some (.string s1) ∧ V.cell? ⟨kb, koff + j * 6 + 2, none⟩ = some (.int .i64 n1) ∧ V.cell? ⟨kb, koff + j * 6 + 3, none⟩ = some (.slice so sn sc) ∧ V.cell? ⟨kb, koff + j * 6 + 4, none⟩ = some (.slice ao an ac) ∧ V.cell? ⟨kb, koff + j * 6 + 5, none⟩ = some (.slice uo un uc)) (fun i => decide (i < 20)) (by kernel_rfl) ?_
            refine wpAnyR_take (i := 0) (v := .slice (some ⟨G1, 0, none⟩) (LN + j) c) rfl (by kernel_rfl) (by kernel_rfl) (by kernel_rfl) (by kernel_rfl) (fun _ _ _ h => h) (Or.inl ⟨by rfl, fun V hV => ?_⟩) ?_ ?_
            · obtain ⟨g0, g1, g2, g3, g4, g5, g6, g7⟩ := hV
              go_simp
            · exact HS0
            conv => arg 9; simp [Act.put]
            refine wpAnyR_take (i := 1) (v := .slice (some ⟨G1, 0, none⟩) (LN + j) c) rfl (by kernel_rfl) (by kernel_rfl) (by kernel_rfl) (by kernel_rfl) (fun _ _ _ h => h) (Or.inl ⟨by rfl, fun V hV => ?_⟩) ?_ ?_
            · obtain ⟨g0, g1, g2, g3, g4, g5, g6, g7⟩ := hV
              go_simp
            · exact HS0
            conv => arg 9; simp [Act.put]
            refine wpAnyR_take (i := 2) (v := .int .i64 (i : Nat)) rfl (by kernel_rfl) (by kernel_rfl) (by kernel_rfl) (by kernel_rfl) (fun _ _ _ h => h) (Or.inl ⟨by rfl, fun V hV => ?_⟩) ?_ ?_
            · obtain ⟨g0, g1, g2, g3, g4, g5, g6, g7⟩ := hV
              go_simp
            · exact HS0
            conv => arg 9; simp [Act.put]
            refine wpAnyR_take (i := 3) (v := .pointer (some ⟨G1, i * 8, none⟩)) rfl (by kernel_rfl) (by kernel_rfl) (by kernel_rfl) (by kernel_rfl) (fun _ _ _ h => h) (Or.inl ⟨by rfl, fun V hV => ?_⟩) ?_ ?_
            · obtain ⟨g0, g1, g2, g3, g4, g5, g6, g7⟩ := hV
              go_simp
            · exact HS0
            conv => arg 9; simp [Act.put]
            refine wpAnyR_take (i := 4) (v := .pointer (some ⟨G1, i * 8, none⟩)) rfl (by kernel_rfl) (by kernel_rfl) (by kernel_rfl) (by kernel_rfl) (fun _ _ _ h => h) (Or.inl ⟨by rfl, fun V hV => ?_⟩) ?_ ?_
            · obtain ⟨g0, g1, g2, g3, g4, g5, g6, g7⟩ := hV
              go_simp
            · exact HS0
            conv => arg 9; simp [Act.put]
            refine wpAnyR_take (i := 5) (v := .pointer (some ⟨G1, i * 8 + 5, none⟩)) rfl (by kernel_rfl) (by kernel_rfl) (by kernel_rfl) (by kernel_rfl) (fun _ _ _ h => h) (Or.inl ⟨by rfl, fun V hV => ?_⟩) ?_ ?_
            · obtain ⟨g0, g1, g2, g3, g4, g5, g6, g7⟩ := hV
              go_simp
            · exact HS0
            conv => arg 9; simp [Act.put]
            refine wpAnyR_take (i := 6) (v := .slice (some ⟨kb, koff, none⟩) nk kc1) rfl (by kernel_rfl) (by kernel_rfl) (by kernel_rfl) (by kernel_rfl) (fun _ _ _ h => h) (Or.inl ⟨by rfl, fun V hV => ?_⟩) ?_ ?_
            · obtain ⟨g0, g1, g2, g3, g4, g5, g6, g7⟩ := hV
              go_simp
            · exact HS0
            conv => arg 9; simp [Act.put]
            refine wpAnyR_take (i := 7) (v := .int .i64 (j : Nat)) rfl (by kernel_rfl) (by kernel_rfl) (by kernel_rfl) (by kernel_rfl) (fun _ _ _ h => h) (Or.inl ⟨by rfl, fun V hV => ?_⟩) ?_ ?_
            · obtain ⟨g0, g1, g2, g3, g4, g5, g6, g7⟩ := hV
              go_simp
            · exact HS0
            conv => arg 9; simp [Act.put]
            refine wpAnyR_take (i := 8) (v := .pointer (some ⟨kb, koff + j * 6, none⟩)) rfl (by kernel_rfl) (by kernel_rfl) (by kernel_rfl) (by kernel_rfl) (fun _ _ _ h => h) (Or.inl ⟨by rfl, fun V hV => ?_⟩) ?_ ?_
            · obtain ⟨g0, g1, g2, g3, g4, g5, g6, g7⟩ := hV
              go_simp
            · exact HS0
            conv => arg 9; simp [Act.put]
            refine wpAnyR_take (i := 9) (v := .agg #[.int .i64 m1, .string s1, .int .i64 n1, .slice so sn sc, .slice ao an ac, .slice uo un uc]) rfl (by kernel_rfl) (by kernel_rfl) (by kernel_rfl) (by kernel_rfl) (fun _ _ _ h => h) (Or.inl ⟨by rfl, fun V hV => ?_⟩) ?_ ?_
            · obtain ⟨g0, g1, g2, g3, g4, g5, g6, g7⟩ := hV
              go_simp
            · exact HS0
            conv => arg 9; simp [Act.put]
            refine wpAnyR_take (i := 10) (v := .slice (some ⟨G1, 0, none⟩) (LN + j) c) rfl (by kernel_rfl) (by kernel_rfl) (by kernel_rfl) (by kernel_rfl) (fun _ _ _ h => h) (Or.inl ⟨by rfl, fun V hV => ?_⟩) ?_ ?_
            · obtain ⟨g0, g1, g2, g3, g4, g5, g6, g7⟩ := hV
              go_simp
            · exact HS0
            conv => arg 9; simp [Act.put]
            refine wpAnyR_take (i := 11) (v := .int .i64 (i : Nat)) rfl (by kernel_rfl) (by kernel_rfl) (by kernel_rfl) (by kernel_rfl) (fun _ _ _ h => h) (Or.inl ⟨by rfl, fun V hV => ?_⟩) ?_ ?_
            · obtain ⟨g0, g1, g2, g3, g4, g5, g6, g7⟩ := hV
              go_simp
            · exact HS0
            conv => arg 9; simp [Act.put]
            refine wpAnyR_take (i := 12) (v := .pointer (some ⟨G1, i * 8, none⟩)) rfl (by kernel_rfl) (by kernel_rfl) (by kernel_rfl) (by kernel_rfl) (fun _ _ _ h => h) (Or.inl ⟨by rfl, fun V hV => ?_⟩) ?_ ?_
            · obtain ⟨g0, g1, g2, g3, g4, g5, g6, g7⟩ := hV
              go_simp
            · exact HS0
            conv => arg 9; simp [Act.put]
            refine wpAnyR_take (i := 13) (v := .pointer (some ⟨G1, i * 8 + 6, none⟩)) rfl (by kernel_rfl) (by kernel_rfl) (by kernel_rfl) (by kernel_rfl) (fun _ _ _ h => h) (Or.inl ⟨by rfl, fun V hV => ?_⟩) ?_ ?_
            · obtain ⟨g0, g1, g2, g3, g4, g5, g6, g7⟩ := hV
              go_simp
            · exact HS0
            conv => arg 9; simp [Act.put]
            refine wpAnyR_take (i := 14) (v := .int .i64 (dp : Nat)) rfl (by kernel_rfl) (by kernel_rfl) (by kernel_rfl) (by kernel_rfl) (fun _ _ _ h => h) (Or.inl ⟨by rfl, fun V hV => ?_⟩) ?_ ?_
            · obtain ⟨g0, g1, g2, g3, g4, g5, g6, g7⟩ := hV
              go_simp
            · exact HS0
            conv => arg 9; simp [Act.put]
            refine wpAnyR_take (i := 15) (v := .int .i64 ((dp : Int) + 1)) rfl (by kernel_rfl) (by kernel_rfl) (by kernel_rfl) (by kernel_rfl) (fun _ _ _ h => h) (Or.inl ⟨by rfl, fun V hV => ?_⟩) ?_ ?_
            · obtain ⟨g0, g1, g2, g3, g4, g5, g6, g7⟩ := hV
              go_simp
            · exact HS0
            conv => arg 9; simp [Act.put]
            refine wpAnyR_take (i := 16) (v := .bool bb) rfl (by kernel_rfl) (by kernel_rfl) (by kernel_rfl) (by kernel_rfl) (fun _ _ _ h => h) (Or.inl ⟨by rfl, fun V hV => ?_⟩) ?_ ?_
            · obtain ⟨g0, g1, g2, g3, g4, g5, g6, g7⟩ := hV
              go_simp
            · exact HS0
            conv => arg 9; simp [Act.put]
            refine wpAnyR_take (i := 17) (v := .agg #[.int .i64 m1, .string s1, .int .i64 n1, .slice so sn sc, .slice ao an ac, .slice uo un uc, .int .i64 ((dp : Int) + 1), .bool bb]) rfl (by kernel_rfl) (by kernel_rfl) (by kernel_rfl) (by kernel_rfl) (fun _ _ _ h => h) (Or.inl ⟨by rfl, fun V hV => ?_⟩) ?_ ?_
            · obtain ⟨g0, g1, g2, g3, g4, g5, g6, g7⟩ := hV
              go_simp
            · exact HS0
            conv => arg 9; simp [Act.put]
            have kX := box_below wr (.cells #[.int .i64 m1, .string s1, .int .i64 n1, .slice so sn sc, .slice ao an ac, .slice uo un uc, .int .i64 ((dp : Int) + 1), .bool bb] 77)
            have RX : (wr.alloc (.cells #[.int .i64 m1, .string s1, .int .i64 n1, .slice so sn sc, .slice ao an ac, .slice uo un uc, .int .i64 ((dp : Int) + 1), .bool bb] 77)).drew.heap[wr.heap.size]? = _ := allocNew wr (.cells #[.int .i64 m1, .string s1, .int .i64 n1, .slice so sn sc, .slice ao an ac, .slice uo un uc, .int .i64 ((dp : Int) + 1), .bool bb] 77)
            have kX' := kX.drew
            obtain ⟨s0, s1', s2, s3, s4, s5, s6, s7⟩ := HS0
            refine wpAnyR_one (i := 18) (by kernel_rfl) rfl (fun K hK => ?_)
            go_simp
            refine hK _ _ ⟨fun _ => ⟨(kX'.cell (p := ⟨G1, i * 8 + 5, none⟩) hGV1).trans s0, (kX'.cell (p := ⟨G1, i * 8 + 6, none⟩) hGV1).trans s1', (kX'.cell (p := ⟨kb, koff + j * 6, none⟩) (Nat.lt_of_lt_of_le hkl bV.size)).trans s2, (kX'.cell (p := ⟨kb, koff + j * 6 + 1, none⟩) (Nat.lt_of_lt_of_le hkl bV.size)).trans s3, (kX'.cell (p := ⟨kb, koff + j * 6 + 2, none⟩) (Nat.lt_of_lt_of_le hkl bV.size)).trans s4, (kX'.cell (p := ⟨kb, koff + j * 6 + 3, none⟩) (Nat.lt_of_lt_of_le hkl bV.size)).trans s5, (kX'.cell (p := ⟨kb, koff + j * 6 + 4, none⟩) (Nat.lt_of_lt_of_le hkl bV.size)).trans s6, (kX'.cell (p := ⟨kb, koff + j * 6 + 5, none⟩) (Nat.lt_of_lt_of_le hkl bV.size)).trans s7⟩, ?_⟩
            clear hK
            conv => arg 9; simp [Act.put]
            refine wpAnyR_one (i := 19) (by kernel_rfl) rfl (fun K hK => ?_)
            refine step_joinZ rfl (.tmp 66) (.tmp 84) rfl w.heap.size wr.heap.size (some ⟨G1, 0, none⟩) (LN + j) c vals _ _ _ _ _ _ _ _ (by simp [Value.oneCell']) rfl rfl (own_kb' own1 kX') RX (by omega) (by have := N1.bel.size; have := kX'.size; omega) ?_
            intro o' c' V3 hown gr hkeep
            have lk : ∀ q, q < wr.heap.size → q ≠ G1 → V3.heap[q]? = (wr.alloc (.cells #[.int .i64 m1, .string s1, .int .i64 n1, .slice so sn sc, .slice ao an ac, .slice uo un uc, .int .i64 ((dp : Int) + 1), .bool bb] 77)).drew.heap[q]? := fun q hq hne => gr.block q (Nat.lt_of_lt_of_le hq kX'.size) (fun e => hne (by injection e))
            have kc : ∀ j', V3.cell? ⟨kb, j', none⟩ = (wr.alloc (.cells #[.int .i64 m1, .string s1, .int .i64 n1, .slice so sn sc, .slice ao an ac, .slice uo un uc, .int .i64 ((dp : Int) + 1), .bool bb] 77)).drew.cell? ⟨kb, j', none⟩ := fun j' => by
              have hne : kb ≠ G1 := by have := hw.size; omega
              simp only [World.cell?]
              rw [lk kb (Nat.lt_of_lt_of_le hkl bV.size) hne]
            have N2 := N1.push (z := y) ty kX' (by rw [hlen, hydp, hyb, ← Hdp.out, ← Hbb.out]; exact hown) (by rw [hlen]; exact gr)
            refine hK _ _ ⟨fun _ => ⟨(hkeep G1 rfl _ (by omega)).trans ((kX'.cell (p := ⟨G1, i * 8 + 5, none⟩) hGV1).trans s0), (hkeep G1 rfl _ (by omega)).trans ((kX'.cell (p := ⟨G1, i * 8 + 6, none⟩) hGV1).trans s1'), (kc _).trans ((kX'.cell (p := ⟨kb, koff + j * 6, none⟩) (Nat.lt_of_lt_of_le hkl bV.size)).trans s2), (kc _).trans ((kX'.cell (p := ⟨kb, koff + j * 6 + 1, none⟩) (Nat.lt_of_lt_of_le hkl bV.size)).trans s3), (kc _).trans ((kX'.cell (p := ⟨kb, koff + j * 6 + 2, none⟩) (Nat.lt_of_lt_of_le hkl bV.size)).trans s4), (kc _).trans ((kX'.cell (p := ⟨kb, koff + j * 6 + 3, none⟩) (Nat.lt_of_lt_of_le hkl bV.size)).trans s5), (kc _).trans ((kX'.cell (p := ⟨kb, koff + j * 6 + 4, none⟩) (Nat.lt_of_lt_of_le hkl bV.size)).trans s6), (kc _).trans ((kX'.cell (p := ⟨kb, koff + j * 6 + 5, none⟩) (Nat.lt_of_lt_of_le hkl bV.size)).trans s7)⟩, ?_⟩
            clear hK
            (try (conv => arg 9; simp [Act.put]))
            refine wpAnyR_one (i := 20) (by kernel_rfl) rfl (fun K hK => ?_)
            go_simp
            refine hK _ _ ⟨fun h => absurd h (by decide), ?_⟩
            clear hK
            refine wpAnyR_done (by kernel_rfl) ?_ _
            have ek : (l ++ (kidsZ z).take j) ++ [y] = l ++ (kidsZ z).take (j + 1) := by
              rw [List.append_assoc, List.take_add_one, hy]; rfl
            rw [ek] at N2
            clear s0 s1' s2 s3 s4 s5 s6 s7 kX RX lk kc hkeep kX' hown gr own1 hk1 N1 e5 e6 ty x0 x1 x2 x3 x4 x5 hz1 hlen bV bc ty' hy
            go_wp2
            go_roundw
            case rel => exact ⟨j + 1, o', c', _, rfl, by go_num, by omega, N2⟩
            case measure => simp [intOf]; omega
          · obtain rfl : j = nk := by omega
            have t3 : decide ((j : Int) < (j : Int)) = false := by simp
            have N2 : Rn w0 w wr (some ⟨G1, 0, none⟩) c (l ++ kidsZ z) vals := by
              have := N1
              rw [List.take_of_length_le (by rw [HLk.out]; omega)] at this
              exact this
            go_wp2
            go_roundw
            case rel =>
              refine ⟨i + 1, l ++ kidsZ z, _, c, vals, ?_, by go_num, ?_, ?_, ?_, ?_, N2⟩
              · rw [List.length_append, HLk.out, ← HLN.out]
              · show rowF (4097 - (i + 1)) (i + 1) (l ++ kidsZ z) = R
                rw [show 4097 - (i + 1) = 4096 - i by omega]; exact HFn.out
              · rw [List.length_append, ← HLN.out]; omega
              · rw [List.length_append, HLk.out, ← HLN.out]; omega
              · rw [List.length_append, ← HLN.out]; omega
            case measure => simp [intOf]; omega
      · have t6 : (kk == 23) = false := by simp [h23]
        rw [if_neg h23] at hb2
        subst hb2
        clear h23
        go_upto_region 10 with fail
        clear t4 t5 ws e0 e2 e7 t6 bi t3
        go_wp2
        go_loopw [4, 7] (fun lv kv V => ∃ (j : Nat) (o : Option Addr) (c : Nat) (vals : List Value), lv = .slice o (LN + j) c ∧ kv = .int .i64 (j : Nat) ∧ j ≤ nk ∧ Rn w0 w V o c (l ++ (kidsZ z).take j) vals) (fun _ kv _ => nk - (intOf kv).toNat)
        case atStart => exact ⟨0, _, _, vals, rfl, rfl, Nat.zero_le _, by rw [List.take_zero, List.append_nil]; exact HN.out⟩
        case round =>
          obtain ⟨j, o, c, vals, rfl, rfl, hj, N1⟩ := hrel
          clear e5 e6
          have hlen : (l ++ (kidsZ z).take j).length = LN + j := by
            have := HLk.out
            have := HLN.out
            rw [List.length_append, List.length_take]; omega
          have hz1 : (l ++ (kidsZ z).take j)[i]? = some z := by
            rw [List.getElem?_append_left (by have := HLN.out; omega)]; exact HZ.out
          obtain ⟨d0, d1, d2, d3, d4, d5, tz1, p0, p1, p2, p3, p4, p5, p6, p7⟩ := N1.nodes i z hz1
          have own1 := N1.own
          rw [hlen] at own1
          obtain ⟨G1, rfl, hGB1, hGV1, hcell1⟩ := own_cell8 own1 (by omega)
          obtain ⟨⟨so1, sn1, sc1, ao1, an1, ac1, ko1, kc1, ev, h1, h2, h3, h4, hk1, hks1⟩, hkb1, hnb1, htb1⟩ := tz1
          injection ev with ev0 ev
          injection ev with ev1 ev
          injection ev with ev2 ev
          injection ev with ev3 ev
          injection ev with ev4 ev
          injection ev with ev5 ev
          subst ev0 ev1 ev2 ev3 ev4 ev5
          have e5 := (hcell1 (i * 8 + 5) (by omega)).trans p5
          have e6 := (hcell1 (i * 8 + 6) (by omega)).trans p6
          rw [← Hnk.out] at e5
          rw [← Hdp.out] at e6
          clear h1 h2 h3 h4 hks1 hkb1 hnb1 htb1 p0 p1 p2 p3 p4 p5 p6 p7 hcell1
          have bi : (i : Int) < ((LN + j : Nat) : Int) := by omega
          have bi' : (i : Int) < (LN : Int) + (j : Int) := by omega
          by_cases hlt2 : j < nk
          · have t3 : decide ((j : Int) < (nk : Int)) = true := by simp; omega
            have bj : (j : Int) < (nk : Int) := by omega
            obtain ⟨y, hy, hydp, hyb, kb, koff, rfl, hkl, k0, k1, k2, k3, k4, k5, ty, x0, x1, x2, x3, x4, x5⟩ := kidsZ_kid z j (by rw [← Hnk.out]; exact hlt2) hk1
            obtain ⟨m1, s1, n1, so, sn, sc, ao, an, ac, uo, un, uc, ev⟩ := ty.form
            injection ev with ev0 ev
            injection ev with ev1 ev
            injection ev with ev2 ev
            injection ev with ev3 ev
            injection ev with ev4 ev
            injection ev with ev5 ev
            subst ev0 ev1 ev2 ev3 ev4 ev5
            have bV := hw.trans (N1.bel.mono hw.size)
            have HS0 : (fun V : World => V.cell? ⟨G1, i * 8 + 5, none⟩ = some (.slice (some ⟨kb, koff, none⟩) nk kc1) ∧ V.cell? ⟨G1, i * 8 + 6, none⟩ = some (.int .i64 (dp : Nat)) ∧ V.cell? ⟨kb, koff + j * 6, none⟩ = some (.int .i64 m1) ∧ V.cell? ⟨kb, koff + j * 6 + 1, none⟩ = some (.string s1) ∧ V.cell? ⟨kb, koff + j * 6 + 2, none⟩ = some (.int .i64 n1) ∧ V.cell? ⟨kb, koff + j * 6 + 3, none⟩ = some (.slice so sn sc) ∧ V.cell? ⟨kb, koff + j * 6 + 4, none⟩ = some (.slice ao an ac) ∧ V.cell? ⟨kb, koff + j * 6 + 5, none⟩ = some (.slice uo un uc)) wr := ⟨e5, e6, (bV.cell (p := ⟨kb, koff + j * 6, none⟩) hkl).trans x0, (bV.cell (p := ⟨kb, koff + j * 6 + 1, none⟩) hkl).trans x1, (bV.cell (p := ⟨kb, koff + j * 6 + 2, none⟩) hkl).trans x2, (bV.cell (p := ⟨kb, koff + j * 6 + 3, none⟩) hkl).trans x3, (bV.cell (p := ⟨kb, koff + j * 6 + 4, none⟩) hkl).trans x4, (bV.cell (p := ⟨kb, koff + j * 6 + 5, none⟩) hkl).trans x5⟩
            have ty' := ty
            have bc := N1.bel
            have wdp : IntKind.i64.wrap ((dp : Int) + 1) = (dp : Int) + 1 := wrT (by have := HDP.out; omega) (by have := HDP.out; omega)
            have wj1 : IntKind.i64.wrap ((j : Int) + 1) = (j : Int) + 1 := wrT (by omega) (by omega)
            go_upto_region 13 with fail
            refine wp_region_R (fun V => V.cell? ⟨G1, i * 8 + 5, none⟩ = some (.slice (some ⟨kb, koff, none⟩) nk kc1) ∧ V.cell? ⟨G1, i * 8 + 6, none⟩ = some (.int .i64 (dp : Nat)) ∧ V.cell? ⟨kb, koff + j * 6, none⟩ = some (.int .i64 m1) ∧ V.cell? ⟨kb, koff + j * 6 + 1, none⟩ = some (.string s1) ∧ V.cell? ⟨kb, koff + j * 6 + 2, none⟩ = some (.int .i64 n1) ∧ V.cell? ⟨kb, koff + j * 6 + 3, none⟩ = some (.slice so sn sc) ∧ V.cell? ⟨kb, koff + j * 6 + 4, none⟩ = some (.slice ao an ac) ∧ V.cell? ⟨kb, koff + j * 6 + 5, none⟩ = some (.slice uo un uc)) (fun i => decide (i < 20)) (by kernel_rfl) ?_
            refine wpAnyR_take (i := 0) (v := .slice (some ⟨G1, 0, none⟩) (LN + j) c) rfl (by kernel_rfl) (by kernel_rfl) (by kernel_rfl) (by kernel_rfl) (fun _ _ _ h => h) (Or.inl ⟨by rfl, fun V hV => ?_⟩) ?_ ?_
            · obtain ⟨g0, g1, g2, g3, g4, g5, g6, g7⟩ := hV
              go_simp
            · exact HS0
            conv => arg 9; simp [Act.put]
            refine wpAnyR_take (i := 1) (v := .slice (some ⟨G1, 0, none⟩) (LN + j) c) rfl (by kernel_rfl) (by kernel_rfl) (by kernel_rfl) (by kernel_rfl) (fun _ _ _ h => h) (Or.inl ⟨by rfl, fun V hV => ?_⟩) ?_ ?_
            · obtain ⟨g0, g1, g2, g3, g4, g5, g6, g7⟩ := hV
              go_simp
            · exact HS0
            conv => arg 9; simp [Act.put]
            refine wpAnyR_take (i := 2) (v := .int .i64 (i : Nat)) rfl (by kernel_rfl) (by kernel_rfl) (by kernel_rfl) (by kernel_rfl) (fun _ _ _ h => h) (Or.inl ⟨by rfl, fun V hV => ?_⟩) ?_ ?_
            · obtain ⟨g0, g1, g2, g3, g4, g5, g6, g7⟩ := hV
              go_simp
            · exact HS0
            conv => arg 9; simp [Act.put]
            refine wpAnyR_take (i := 3) (v := .pointer (some ⟨G1, i * 8, none⟩)) rfl (by kernel_rfl) (by kernel_rfl) (by kernel_rfl) (by kernel_rfl) (fun _ _ _ h => h) (Or.inl ⟨by rfl, fun V hV => ?_⟩) ?_ ?_
            · obtain ⟨g0, g1, g2, g3, g4, g5, g6, g7⟩ := hV
              go_simp
            · exact HS0
            conv => arg 9; simp [Act.put]
            refine wpAnyR_take (i := 4) (v := .pointer (some ⟨G1, i * 8, none⟩)) rfl (by kernel_rfl) (by kernel_rfl) (by kernel_rfl) (by kernel_rfl) (fun _ _ _ h => h) (Or.inl ⟨by rfl, fun V hV => ?_⟩) ?_ ?_
            · obtain ⟨g0, g1, g2, g3, g4, g5, g6, g7⟩ := hV
              go_simp
            · exact HS0
            conv => arg 9; simp [Act.put]
            refine wpAnyR_take (i := 5) (v := .pointer (some ⟨G1, i * 8 + 5, none⟩)) rfl (by kernel_rfl) (by kernel_rfl) (by kernel_rfl) (by kernel_rfl) (fun _ _ _ h => h) (Or.inl ⟨by rfl, fun V hV => ?_⟩) ?_ ?_
            · obtain ⟨g0, g1, g2, g3, g4, g5, g6, g7⟩ := hV
              go_simp
            · exact HS0
            conv => arg 9; simp [Act.put]
            refine wpAnyR_take (i := 6) (v := .slice (some ⟨kb, koff, none⟩) nk kc1) rfl (by kernel_rfl) (by kernel_rfl) (by kernel_rfl) (by kernel_rfl) (fun _ _ _ h => h) (Or.inl ⟨by rfl, fun V hV => ?_⟩) ?_ ?_
            · obtain ⟨g0, g1, g2, g3, g4, g5, g6, g7⟩ := hV
              go_simp
            · exact HS0
            conv => arg 9; simp [Act.put]
            refine wpAnyR_take (i := 7) (v := .int .i64 (j : Nat)) rfl (by kernel_rfl) (by kernel_rfl) (by kernel_rfl) (by kernel_rfl) (fun _ _ _ h => h) (Or.inl ⟨by rfl, fun V hV => ?_⟩) ?_ ?_
            · obtain ⟨g0, g1, g2, g3, g4, g5, g6, g7⟩ := hV
              go_simp
            · exact HS0
            conv => arg 9; simp [Act.put]
            refine wpAnyR_take (i := 8) (v := .pointer (some ⟨kb, koff + j * 6, none⟩)) rfl (by kernel_rfl) (by kernel_rfl) (by kernel_rfl) (by kernel_rfl) (fun _ _ _ h => h) (Or.inl ⟨by rfl, fun V hV => ?_⟩) ?_ ?_
            · obtain ⟨g0, g1, g2, g3, g4, g5, g6, g7⟩ := hV
              go_simp
            · exact HS0
            conv => arg 9; simp [Act.put]
            refine wpAnyR_take (i := 9) (v := .agg #[.int .i64 m1, .string s1, .int .i64 n1, .slice so sn sc, .slice ao an ac, .slice uo un uc]) rfl (by kernel_rfl) (by kernel_rfl) (by kernel_rfl) (by kernel_rfl) (fun _ _ _ h => h) (Or.inl ⟨by rfl, fun V hV => ?_⟩) ?_ ?_
            · obtain ⟨g0, g1, g2, g3, g4, g5, g6, g7⟩ := hV
              go_simp
            · exact HS0
            conv => arg 9; simp [Act.put]
            refine wpAnyR_take (i := 10) (v := .slice (some ⟨G1, 0, none⟩) (LN + j) c) rfl (by kernel_rfl) (by kernel_rfl) (by kernel_rfl) (by kernel_rfl) (fun _ _ _ h => h) (Or.inl ⟨by rfl, fun V hV => ?_⟩) ?_ ?_
            · obtain ⟨g0, g1, g2, g3, g4, g5, g6, g7⟩ := hV
              go_simp
            · exact HS0
            conv => arg 9; simp [Act.put]
            refine wpAnyR_take (i := 11) (v := .int .i64 (i : Nat)) rfl (by kernel_rfl) (by kernel_rfl) (by kernel_rfl) (by kernel_rfl) (fun _ _ _ h => h) (Or.inl ⟨by rfl, fun V hV => ?_⟩) ?_ ?_
            · obtain ⟨g0, g1, g2, g3, g4, g5, g6, g7⟩ := hV
              go_simp
            · exact HS0
            conv => arg 9; simp [Act.put]
            refine wpAnyR_take (i := 12) (v := .pointer (some ⟨G1, i * 8, none⟩)) rfl (by kernel_rfl) (by kernel_rfl) (by kernel_rfl) (by kernel_rfl) (fun _ _ _ h => h) (Or.inl ⟨by rfl, fun V hV => ?_⟩) ?_ ?_
            · obtain ⟨g0, g1, g2, g3, g4, g5, g6, g7⟩ := hV
              go_simp
            · exact HS0
            conv => arg 9; simp [Act.put]
            refine wpAnyR_take (i := 13) (v := .pointer (some ⟨G1, i * 8 + 6, none⟩)) rfl (by kernel_rfl) (by kernel_rfl) (by kernel_rfl) (by kernel_rfl) (fun _ _ _ h => h) (Or.inl ⟨by rfl, fun V hV => ?_⟩) ?_ ?_
            · obtain ⟨g0, g1, g2, g3, g4, g5, g6, g7⟩ := hV
              go_simp
            · exact HS0
            conv => arg 9; simp [Act.put]
            refine wpAnyR_take (i := 14) (v := .int .i64 (dp : Nat)) rfl (by kernel_rfl) (by kernel_rfl) (by kernel_rfl) (by kernel_rfl) (fun _ _ _ h => h) (Or.inl ⟨by rfl, fun V hV => ?_⟩) ?_ ?_
            · obtain ⟨g0, g1, g2, g3, g4, g5, g6, g7⟩ := hV
              go_simp
            · exact HS0
            conv => arg 9; simp [Act.put]
            refine wpAnyR_take (i := 15) (v := .int .i64 ((dp : Int) + 1)) rfl (by kernel_rfl) (by kernel_rfl) (by kernel_rfl) (by kernel_rfl) (fun _ _ _ h => h) (Or.inl ⟨by rfl, fun V hV => ?_⟩) ?_ ?_
            · obtain ⟨g0, g1, g2, g3, g4, g5, g6, g7⟩ := hV
              go_simp
            · exact HS0
            conv => arg 9; simp [Act.put]
            refine wpAnyR_take (i := 16) (v := .bool bb) rfl (by kernel_rfl) (by kernel_rfl) (by kernel_rfl) (by kernel_rfl) (fun _ _ _ h => h) (Or.inl ⟨by rfl, fun V hV => ?_⟩) ?_ ?_
            · obtain ⟨g0, g1, g2, g3, g4, g5, g6, g7⟩ := hV
              go_simp
            · exact HS0
            conv => arg 9; simp [Act.put]
            refine wpAnyR_take (i := 17) (v := .agg #[.int .i64 m1, .string s1, .int .i64 n1, .slice so sn sc, .slice ao an ac, .slice uo un uc, .int .i64 ((dp : Int) + 1), .bool bb]) rfl (by kernel_rfl) (by kernel_rfl) (by kernel_rfl) (by kernel_rfl) (fun _ _ _ h => h) (Or.inl ⟨by rfl, fun V hV => ?_⟩) ?_ ?_
            · obtain ⟨g0, g1, g2, g3, g4, g5, g6, g7⟩ := hV
              go_simp
            · exact HS0
            conv => arg 9; simp [Act.put]
            have kX := box_below wr (.cells #[.int .i64 m1, .string s1, .int .i64 n1, .slice so sn sc, .slice ao an ac, .slice uo un uc, .int .i64 ((dp : Int) + 1), .bool bb] 77)
            have RX : (wr.alloc (.cells #[.int .i64 m1, .string s1, .int .i64 n1, .slice so sn sc, .slice ao an ac, .slice uo un uc, .int .i64 ((dp : Int) + 1), .bool bb] 77)).drew.heap[wr.heap.size]? = _ := allocNew wr (.cells #[.int .i64 m1, .string s1, .int .i64 n1, .slice so sn sc, .slice ao an ac, .slice uo un uc, .int .i64 ((dp : Int) + 1), .bool bb] 77)
            have kX' := kX.drew
            obtain ⟨s0, s1', s2, s3, s4, s5, s6, s7⟩ := HS0
            refine wpAnyR_one (i := 18) (by kernel_rfl) rfl (fun K hK => ?_)
            go_simp
            refine hK _ _ ⟨fun _ => ⟨(kX'.cell (p := ⟨G1, i * 8 + 5, none⟩) hGV1).trans s0, (kX'.cell (p := ⟨G1, i * 8 + 6, none⟩) hGV1).trans s1', (kX'.cell (p := ⟨kb, koff + j * 6, none⟩) (Nat.lt_of_lt_of_le hkl bV.size)).trans s2, (kX'.cell (p := ⟨kb, koff + j * 6 + 1, none⟩) (Nat.lt_of_lt_of_le hkl bV.size)).trans s3, (kX'.cell (p := ⟨kb, koff + j * 6 + 2, none⟩) (Nat.lt_of_lt_of_le hkl bV.size)).trans s4, (kX'.cell (p := ⟨kb, koff + j * 6 + 3, none⟩) (Nat.lt_of_lt_of_le hkl bV.size)).trans s5, (kX'.cell (p := ⟨kb, koff + j * 6 + 4, none⟩) (Nat.lt_of_lt_of_le hkl bV.size)).trans s6, (kX'.cell (p := ⟨kb, koff + j * 6 + 5, none⟩) (Nat.lt_of_lt_of_le hkl bV.size)).trans s7⟩, ?_⟩
            clear hK
            conv => arg 9; simp [Act.put]
            refine wpAnyR_one (i := 19) (by kernel_rfl) rfl (fun K hK => ?_)
            refine step_joinZ rfl (.tmp 66) (.tmp 84) rfl w.heap.size wr.heap.size (some ⟨G1, 0, none⟩) (LN + j) c vals _ _ _ _ _ _ _ _ (by simp [Value.oneCell']) rfl rfl (own_kb' own1 kX') RX (by omega) (by have := N1.bel.size; have := kX'.size; omega) ?_
            intro o' c' V3 hown gr hkeep
            have lk : ∀ q, q < wr.heap.size → q ≠ G1 → V3.heap[q]? = (wr.alloc (.cells #[.int .i64 m1, .string s1, .int .i64 n1, .slice so sn sc, .slice ao an ac, .slice uo un uc, .int .i64 ((dp : Int) + 1), .bool bb] 77)).drew.heap[q]? := fun q hq hne => gr.block q (Nat.lt_of_lt_of_le hq kX'.size) (fun e => hne (by injection e))
            have kc : ∀ j', V3.cell? ⟨kb, j', none⟩ = (wr.alloc (.cells #[.int .i64 m1, .string s1, .int .i64 n1, .slice so sn sc, .slice ao an ac, .slice uo un uc, .int .i64 ((dp : Int) + 1), .bool bb] 77)).drew.cell? ⟨kb, j', none⟩ := fun j' => by
              have hne : kb ≠ G1 := by have := hw.size; omega
              simp only [World.cell?]
              rw [lk kb (Nat.lt_of_lt_of_le hkl bV.size) hne]
            have N2 := N1.push (z := y) ty kX' (by rw [hlen, hydp, hyb, ← Hdp.out, ← Hbb.out]; exact hown) (by rw [hlen]; exact gr)
            refine hK _ _ ⟨fun _ => ⟨(hkeep G1 rfl _ (by omega)).trans ((kX'.cell (p := ⟨G1, i * 8 + 5, none⟩) hGV1).trans s0), (hkeep G1 rfl _ (by omega)).trans ((kX'.cell (p := ⟨G1, i * 8 + 6, none⟩) hGV1).trans s1'), (kc _).trans ((kX'.cell (p := ⟨kb, koff + j * 6, none⟩) (Nat.lt_of_lt_of_le hkl bV.size)).trans s2), (kc _).trans ((kX'.cell (p := ⟨kb, koff + j * 6 + 1, none⟩) (Nat.lt_of_lt_of_le hkl bV.size)).trans s3), (kc _).trans ((kX'.cell (p := ⟨kb, koff + j * 6 + 2, none⟩) (Nat.lt_of_lt_of_le hkl bV.size)).trans s4), (kc _).trans ((kX'.cell (p := ⟨kb, koff + j * 6 + 3, none⟩) (Nat.lt_of_lt_of_le hkl bV.size)).trans s5), (kc _).trans ((kX'.cell (p := ⟨kb, koff + j * 6 + 4, none⟩) (Nat.lt_of_lt_of_le hkl bV.size)).trans s6), (kc _).trans ((kX'.cell (p := ⟨kb, koff + j * 6 + 5, none⟩) (Nat.lt_of_lt_of_le hkl bV.size)).trans s7)⟩, ?_⟩
            clear hK
            (try (conv => arg 9; simp [Act.put]))
            refine wpAnyR_one (i := 20) (by kernel_rfl) rfl (fun K hK => ?_)
            go_simp
            refine hK _ _ ⟨fun h => absurd h (by decide), ?_⟩
            clear hK
            refine wpAnyR_done (by kernel_rfl) ?_ _
            have ek : (l ++ (kidsZ z).take j) ++ [y] = l ++ (kidsZ z).take (j + 1) := by
              rw [List.append_assoc, List.take_add_one, hy]; rfl
            rw [ek] at N2
            clear s0 s1' s2 s3 s4 s5 s6 s7 kX RX lk kc hkeep kX' hown gr own1 hk1 N1 e5 e6 ty x0 x1 x2 x3 x4 x5 hz1 hlen bV bc ty' hy
            go_wp2
            go_roundw
            case rel => exact ⟨j + 1, o', c', _, rfl, by go_num, by omega, N2⟩
            case measure => simp [intOf]; omega
          · obtain rfl : j = nk := by omega
            have t3 : decide ((j : Int) < (j : Int)) = false := by simp
            have N2 : Rn w0 w wr (some ⟨G1, 0, none⟩) c (l ++ kidsZ z) vals := by
              have := N1
              rw [List.take_of_length_le (by rw [HLk.out]; omega)] at this
              exact this
            go_wp2
            go_roundw
            case rel =>
              refine ⟨i + 1, l ++ kidsZ z, _, c, vals, ?_, by go_num, ?_, ?_, ?_, ?_, N2⟩
              · rw [List.length_append, HLk.out, ← HLN.out]
              · show rowF (4097 - (i + 1)) (i + 1) (l ++ kidsZ z) = R
                rw [show 4097 - (i + 1) = 4096 - i by omega]; exact HFn.out
              · rw [List.length_append, ← HLN.out]; omega
              · rw [List.length_append, HLk.out, ← HLN.out]; omega
              · rw [List.length_append, ← HLN.out]; omega
            case measure => simp [intOf]; omega
    · obtain rfl : i = l.length := by omega
      have t3 : decide ((l.length : Int) < (l.length : Int)) = false := by simp
      rw [show 4097 - l.length = (4096 - l.length) + 1 by omega, rowF_none (Nat.le_refl _)] at hzz
      subst hzz
      go_wp2
      (try simp only [Exit.inBlock, Exit.then])
      refine bodyPost_ret (results_tmp2 rfl _ _ _) rfl ?_
      exact ⟨o, c, vals, rfl, N⟩
end Go.Proofs.YtiahilelcppfgaaGreat
