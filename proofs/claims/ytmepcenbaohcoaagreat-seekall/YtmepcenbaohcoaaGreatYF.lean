
/- Contracts of package seek: an array cut into cells. -/

import Derived.Test.YtmepcenbaohcoaaGreatYE

namespace Go.Proofs.YtmepcenbaohcoaaGreat

open Go.RowKit

set_option linter.unusedVariables false

theorem Rd.subQ {w : World} {ao po : Option Addr} {n ac lo hi : Nat} {zs : List Int} (h : Rd w ao n zs) (hs : Sl ao n ac) (hpo : (if ac = lo then ao else Option.map (fun x => x.add lo) ao) = po) (h1 : lo ≤ hi) (h2 : hi ≤ n) : Rd w po (hi - lo) ((zs.drop lo).take (hi - lo)) ∧ Sl po (hi - lo) (ac - lo) := by
  have hle := hs.le
  have hmx := hs.max
  subst hpo
  by_cases c : ac = lo
  · rw [if_pos c]
    have e : hi - lo = 0 := by omega
    rw [e, List.take_zero]
    exact ⟨Rd.empty _ _, fun e' => ⟨rfl, by omega⟩, by omega, by omega⟩
  · rw [if_neg c]
    cases ao with
    | none => have := hs.nil rfl; omega
    | some a =>
      refine ⟨?_, fun e => (by simp at e), by omega, by omega⟩
      by_cases h0 : hi - lo = 0
      · rw [h0, List.take_zero]; exact Rd.empty _ _
      · obtain ⟨b, off, e, _, _⟩ := h.cells (by omega)
        cases e
        have := h.part (lo := lo) (hi := hi) (z := hi - lo) (by omega) h2
        rw [Option.map_some, add_at]
        exact this
theorem mayF_takeQ {sh : List Int} (h : mayF sh = 0) (p : Nat) : mayF (sh.take p) = 0 := by
  obtain ⟨h1, h2, h3⟩ := mayF_zero h
  by_cases hp : p ≤ sh.length
  · refine mayF_ok (fun k hk => ?_) (by rw [List.length_take]; omega) ?_
    · rw [List.length_take] at hk
      rw [nth_take (by omega)]; exact h1 k (by omega)
    · have := pz_up (l := sh) (i := p) sh.length hp (Nat.le_refl _) h1
      rw [List.take_length] at this; omega
  · rw [List.take_of_length_le (by omega)]; exact h
theorem infoAQ : (Tryz.prog.info? 30).map (fun i => (i.zero, i.size, i.bytes)) = some (some (.agg #[.slice none 0 0, .slice none 0 0]), 2, 48) := by kernel_rfl
theorem run_makeAQ (w : World) (m : Nat) (hm : m ≤ 4096) : (Instr.makeSlice 55 (.int .i64 (m : Nat)) (.int .i64 (m : Nat))).run Tryz.prog w = .ok (.slice (some ⟨w.heap.size, 0, none⟩) m m) (w.alloc (.cells (madeCells #[.slice none 0 0, .slice none 0 0] (m * 2)) 30)) := by
  obtain ⟨i0, hi, hz0, hz1, hz2⟩ := info_parts infoAQ
  have := run_make (P := Tryz.prog) w 55 30 i0 _ Tryz.underlying55 hi hz0 .i64 .i64 (m : Int) (m : Int) (by omega) (Int.le_refl _) (by rw [hz2]; omega) (by omega)
  simpa [hz1, Value.cells] using this

theorem arr_listQ (a : Array Value) : ∃ l : List Value, a = l.toArray := ⟨a.toList, by simp⟩
/-- A slice of n arrays reads as these. -/
structure AsQ (w : World) (ao : Option Addr) (n : Nat) (xs : Nat → List Int × List Int) : Prop where
  room : n ≤ 1000000000000
  cells : 0 < n → ∃ b off, ao = some ⟨b, off, none⟩ ∧ b < w.heap.size ∧ ∀ k, k < n → ∃ so sn sc uo tn tc, w.cell? ⟨b, off + k * 2, none⟩ = some (.slice so sn sc) ∧ w.cell? ⟨b, off + k * 2 + 1, none⟩ = some (.slice uo tn tc) ∧ Rd w so sn (xs k).1 ∧ Sl so sn sc ∧ Rd w uo tn (xs k).2 ∧ Sl uo tn tc
theorem AsQ.below {B : Nat} {w w' : World} {ao : Option Addr} {n : Nat} {xs : Nat → List Int × List Int} (h : AsQ w ao n xs) (hb : Below B w w') (hB : w.heap.size ≤ B) : AsQ w' ao n xs := by
  refine ⟨h.room, fun h0 => ?_⟩
  obtain ⟨b, off, e, hl, hc⟩ := h.cells h0
  refine ⟨b, off, e, Nat.lt_of_lt_of_le hl hb.size, fun k hk => ?_⟩
  obtain ⟨so, sn, sc, uo, tn, tc, a1, a2, a3, a4, a5, a6⟩ := hc k hk
  exact ⟨so, sn, sc, uo, tn, tc, (hb.cell (p := ⟨b, off + k * 2, none⟩) (Nat.lt_of_lt_of_le hl hB)).trans a1, (hb.cell (p := ⟨b, off + k * 2 + 1, none⟩) (Nat.lt_of_lt_of_le hl hB)).trans a2, a3.below hb hB, a4, a5.below hb hB, a6⟩
/-- A row of n arrays in block g, k of them laid: parts of what lies in w. -/
structure Ck (g n k : Nat) (w W V : World) (xs : Nat → List Int × List Int) : Prop where
  bel : Below g W V
  row : ∃ cur : List Value, V.heap[g]? = some (.cells cur.toArray 30 (0, 0)) ∧ cur.length = n * 2 ∧ ∀ j, j < k → ∃ so sn sc uo tn tc, cur[j * 2]? = some (.slice so sn sc) ∧ cur[j * 2 + 1]? = some (.slice uo tn tc) ∧ Rd w so sn (xs j).1 ∧ Sl so sn sc ∧ Rd w uo tn (xs j).2 ∧ Sl uo tn tc
theorem Ck.lt {g n k : Nat} {w W V : World} {xs : Nat → List Int × List Int} (h : Ck g n k w W V xs) : g < V.heap.size := by
  obtain ⟨cur, h1, _⟩ := h.row
  exact (Array.getElem?_eq_some_iff.1 h1).1
theorem Ck.drew {g n k : Nat} {w W V : World} {xs : Nat → List Int × List Int} (h : Ck g n k w W V xs) : Ck g n k w W V.drew xs := ⟨h.bel.drew, h.row⟩
theorem Ck.new (w W : World) (n : Nat) (xs : Nat → List Int × List Int) (z : Array Value) : Ck W.heap.size n 0 w W (W.alloc (.cells (madeCells z (n * 2)) 30)) xs := by
  have h := allocNew W (.cells (madeCells z (n * 2)) 30)
  obtain ⟨cur, hcur⟩ := arr_listQ (madeCells z (n * 2))
  have hl := size_madeCells z (n * 2)
  rw [hcur] at h hl ⊢
  exact ⟨box_below W _, cur, h, by simpa using hl, fun j hj => by omega⟩
theorem Ck.slot {g n k' k : Nat} {w W V : World} {xs : Nat → List Int × List Int} (h : Ck g n k' w W V xs) (hk : k < n) : ∃ x y, V.cell? ⟨g, k * 2, none⟩ = some x ∧ V.cell? ⟨g, k * 2 + 1, none⟩ = some y ∧ V.frozen? ⟨g, k * 2, none⟩ = false ∧ V.frozen? ⟨g, k * 2 + 1, none⟩ = false := by
  obtain ⟨cur, h1, h2, h3⟩ := h.row
  have a : k * 2 < cur.length := by omega
  have b : k * 2 + 1 < cur.length := by omega
  exact ⟨cur[k * 2], cur[k * 2 + 1], (cell_of_row V g _ _ _ (0, 0) h1).trans (by simp [a]), (cell_of_row V g _ _ _ (0, 0) h1).trans (by simp [b]), frozen_of_row V g _ _ _ h1, frozen_of_row V g _ _ _ h1⟩
theorem Ck.set {g n k : Nat} {w W V : World} {xs : Nat → List Int × List Int} (h : Ck g n k w W V xs) (hk : k < n) {so uo : Option Addr} {sn sc tn tc : Nat} (f1 : Rd w so sn (xs k).1) (s1 : Sl so sn sc) (f2 : Rd w uo tn (xs k).2) (s2 : Sl uo tn tc) :
    Ck g n (k + 1) w W ((V.setCell ⟨g, k * 2, none⟩ (.slice so sn sc)).setCell ⟨g, k * 2 + 1, none⟩ (.slice uo tn tc)) xs := by
  obtain ⟨cur, h1, h2, h3⟩ := h.row
  have a1 := heap_setCell_same V g (k * 2) _ 30 (.slice so sn sc) h1
  have a2 := heap_setCell_same _ g (k * 2 + 1) _ 30 (.slice uo tn tc) a1
  refine ⟨(h.bel.setCell (p := ⟨g, k * 2, none⟩) (Nat.le_refl _) _).setCell (p := ⟨g, k * 2 + 1, none⟩) (Nat.le_refl _) _, (cur.set (k * 2) (.slice so sn sc)).set (k * 2 + 1) (.slice uo tn tc), by simpa using a2, by simpa using h2, fun j hj => ?_⟩
  by_cases e : j = k
  · subst e
    exact ⟨so, sn, sc, uo, tn, tc, by rw [List.getElem?_set_ne (by omega), List.getElem?_set_self (by omega)], by rw [List.getElem?_set_self (by simp; omega)], f1, s1, f2, s2⟩
  · obtain ⟨so', sn', sc', uo', tn', tc', b1, b2, b3⟩ := h3 j (by omega)
    exact ⟨so', sn', sc', uo', tn', tc', by rw [List.getElem?_set_ne (by omega), List.getElem?_set_ne (by omega)]; exact b1, by rw [List.getElem?_set_ne (by omega), List.getElem?_set_ne (by omega)]; exact b2, b3⟩
/-- A row of n arrays in block g, all laid, wherever w is as it was. -/
structure Cq (g n : Nat) (w V : World) (xs : Nat → List Int × List Int) : Prop where
  n4 : n ≤ 4096
  bel : Below w.heap.size w V
  ge : w.heap.size ≤ g
  row : ∃ cur : List Value, V.heap[g]? = some (.cells cur.toArray 30 (0, 0)) ∧ cur.length = n * 2 ∧ ∀ j, j < n → ∃ so sn sc uo tn tc, cur[j * 2]? = some (.slice so sn sc) ∧ cur[j * 2 + 1]? = some (.slice uo tn tc) ∧ Rd w so sn (xs j).1 ∧ Sl so sn sc ∧ Rd w uo tn (xs j).2 ∧ Sl uo tn tc
theorem Cq.lt {g n : Nat} {w V : World} {xs : Nat → List Int × List Int} (h : Cq g n w V xs) : g < V.heap.size := by
  obtain ⟨cur, h1, _⟩ := h.row
  exact (Array.getElem?_eq_some_iff.1 h1).1
theorem Cq.keep {g n : Nat} {w V V' : World} {xs : Nat → List Int × List Int} (h : Cq g n w V xs) (hb : Below w.heap.size w V') (hg : V'.heap[g]? = V.heap[g]?) : Cq g n w V' xs := by
  obtain ⟨cur, h1, h2⟩ := h.row
  exact ⟨h.n4, hb, h.ge, cur, hg.trans h1, h2⟩
theorem Cq.below {g n : Nat} {w V V' : World} {xs : Nat → List Int × List Int} (h : Cq g n w V xs) (hb : Below V.heap.size V V') : Cq g n w V' xs :=
  h.keep (h.bel.trans (hb.mono h.bel.size)) (hb.block g h.lt)
theorem Cq.as {g n : Nat} {w V : World} {xs : Nat → List Int × List Int} (h : Cq g n w V xs) : AsQ V (some ⟨g, 0, none⟩) n xs := by
  have := h.n4
  refine ⟨by omega, fun _ => ⟨g, 0, rfl, h.lt, fun k hk => ?_⟩⟩
  obtain ⟨cur, h1, h2, h3⟩ := h.row
  obtain ⟨so, sn, sc, uo, tn, tc, a1, a2, a3, a4, a5, a6⟩ := h3 k hk
  exact ⟨so, sn, sc, uo, tn, tc, (cell_of_row V g _ _ _ (0, 0) h1).trans (by simpa using a1), (cell_of_row V g _ _ _ (0, 0) h1).trans (by simpa using a2), a3.below h.bel (Nat.le_refl _), a4, a5.below h.bel (Nat.le_refl _), a6⟩

/-- What the cells below so many lengths are. -/
def cuz (sh at' : List Int) (p : Nat) : Nat := at'.length / (pr (sh.take p)).toNat
def cux (sh at' : List Int) (p : Nat) (k : Nat) : List Int × List Int := (sh.drop p, (at'.drop (k * cuz sh at' p)).take (cuz sh at' p))
/-- How many. -/
def cun (sh : List Int) (p : Nat) : Nat := (pr (sh.take p)).toNat

set_option maxHeartbeats 4000000 in
set_option maxRecDepth 20000 in
theorem cut_any (so ao : Option Addr) (sn sc an ac : Nat) (sh at' : List Int) (p : Nat) (w0 w : World) (hw0 : Below w0.heap.size w0 w) (h9 : Rd w0 so sn sh) (hs : Sl so sn sc) (g9 : Rd w0 ao an at') (gs : Sl ao an ac) (h0 : mayA sh at' = 0) (hp : p ≤ sn) :
    Calls Tryz.prog 83 #[.agg #[.slice so sn sc, .slice ao an ac], .int .i64 (p : Nat)] w fun e w' => ∃ o1 c1 o2 c2 gg, e = .returned (.tuple #[.agg #[.slice o1 p c1, .slice o2 (cun sh p) c2], .slice (some ⟨gg, 0, none⟩) (cun sh p) (cun sh p)]) ∧ Ft 3 w' w.heap.size o1 p c1 (sh.take p) ∧ Ft 2 w' w.heap.size o2 (cun sh p) c2 (List.replicate (cun sh p) 0) ∧ apart o1 o2 ∧ (∀ b off, o1 = some ⟨b, off, none⟩ → b < gg) ∧ (∀ b off, o2 = some ⟨b, off, none⟩ → b < gg) ∧ w.heap.size ≤ gg ∧ Below w.heap.size w w' ∧ Cq gg (cun sh p) w0 w' (cux sh at' p) := by
  have h := h9.below hw0 (Nat.le_refl _)
  have g := g9.below hw0 (Nat.le_refl _)
  obtain ⟨hm, ha⟩ := mayA_zero h0
  have hmt := mayF_takeQ hm p
  have hbd := pr_small hm p (by rw [h.len]; exact hp)
  have hal := at_len h0
  obtain ⟨N, hN⟩ : ∃ N : Nat, pr (sh.take p) = (N : Int) := ⟨(pr (sh.take p)).toNat, by omega⟩
  have hcn : cun sh p = N := by unfold cun; rw [hN]; simp
  obtain ⟨z, hz⟩ : ∃ z : Nat, cuz sh at' p = z := ⟨_, rfl⟩
  have HNZ : N * z = an := by
    unfold cuz at hz
    rw [hN, Int.toNat_natCast] at hz
    have e1 := pr_app (sh.take p) (sh.drop p)
    rw [List.take_append_drop, hN] at e1
    have e2 : (at'.length : Int) = (N : Int) * pr (sh.drop p) := by rw [ha, e1]
    have e3 : N ∣ at'.length := by
      have : (N : Int) ∣ (at'.length : Int) := ⟨_, e2⟩
      exact Int.natCast_dvd_natCast.1 this
    rw [← hz, Nat.mul_div_cancel' e3, g.len]
  have hxs : ∀ k, cux sh at' p k = (sh.drop p, (at'.drop (k * z)).take z) := fun k => by unfold cux; rw [hz]
  have ba := (mayF_zero hm).2.1
  rw [h.len] at ba
  have hN4 : N ≤ 4096 := by omega
  have han4 : an ≤ 4096 := by rw [← g.len]; exact hal
  have hfx : ∀ W, Below w.heap.size w W → Calls Tryz.prog 68 #[.slice so p sc, .int .i64 0] W fun e w' => ∃ o1 c1 o2 c2, e = .returned (.tuple #[.agg #[.slice o1 p c1, .slice o2 N c2], .int .i64 0]) ∧ Ft 3 w' W.heap.size o1 p c1 (sh.take p) ∧ Ft 2 w' W.heap.size o2 N c2 (List.replicate N 0) ∧ apart o1 o2 ∧ Below W.heap.size W w' := fun W hW => by
    have := fill_any so p sc (sh.take p) 0 W ((h.below hW (Nat.le_refl _)).take p hp) ⟨fun e => by have := hs.nil e; omega, by have := hs.le; omega, hs.max⟩ (by omega) (by omega)
    rw [hmt, show filS (sh.take p) = sh.take p from if_pos hmt, show filA (sh.take p) 0 = List.replicate (pr (sh.take p)).toNat 0 from if_pos hmt, hN, Int.toNat_natCast] at this
    refine this.mono ?_
    rintro e w' ⟨o1, n1, c1, o2, n2, c2, rfl, f1, f2, hap, hb⟩
    have l1 := f1.rd.len
    have l2 := f2.rd.len
    rw [List.length_take, h.len] at l1
    rw [List.length_replicate] at l2
    obtain rfl : n1 = p := by omega
    obtain rfl : n2 = N := by omega
    exact ⟨o1, c1, o2, c2, rfl, f1, f2, hap, hb⟩
  rw [hcn]
  obtain ⟨p1, hp1⟩ : ∃ p1, (if sc = p then so else Option.map (fun x => x.add p) so) = p1 := ⟨_, rfl⟩
  have hsle := hs.le
  have hsmx := hs.max
  have gle := gs.le
  have gmx := gs.max
  obtain ⟨x1, x2⟩ := h9.subQ hs hp1 hp (Nat.le_refl _)
  rw [show (sh.drop p).take (sn - p) = sh.drop p from List.take_of_length_le (by rw [List.length_drop, h.len]; exact Nat.le_refl _)] at x1
  have bp : (p : Int) ≤ (sc : Int) := by omega
  have bp2 : (p : Int) ≤ (sn : Int) := by omega
  have bsn : (sn : Int) ≤ (sc : Int) := by omega
  have U0 := it_start w so sn sc ao an ac sh at' h g
  obtain ⟨q0, q1, qr, _, _, qb⟩ := U0
  have hmk := fun W => run_makeAQ W N hN4
  have HX : Hid (∀ k, cux sh at' p k = (sh.drop p, (at'.drop (k * z)).take z)) := hxs
  have HN2 : Hid (N * z = an) := HNZ
  clear hxs HNZ hz hN hcn hmt hbd ha hm hal h0
  go_enter Tryz.func83, Tryz.ntmps83
  go_wp2_with (first
    | (go_at_call 68; (with_reducible refine (hfx _ qb).mono ?_); rintro e w1 ⟨o1, c1, o2, c2, rfl, f1, f2, hap, k1⟩))
  have s1 := k1.size
  simp only [World.size_alloc] at s1 f1 f2 k1
  have kz := box_below w1 (.cells #[.slice o1 p c1, .slice o2 N c2] 30)
  have zb := allocNew w1 (.cells #[.slice o1 p c1, .slice o2 N c2] 30)
  have K0 := Ck.new w0 (w1.alloc (.cells #[.slice o1 p c1, .slice o2 N c2] 30)) N (cux sh at' p) #[.slice none 0 0, .slice none 0 0]
  rw [World.size_alloc] at K0
  have kall : Below w.heap.size w (w1.alloc (.cells #[.slice o1 p c1, .slice o2 N c2] 30)) := (qb.trans (k1.mono (by omega))).trans (kz.mono (by omega))
  have f1z := f1.below kz (Nat.le_refl _)
  have f2z := f2.below kz (Nat.le_refl _)
  have z0 : (w1.alloc (.cells #[.slice o1 p c1, .slice o2 N c2] 30)).cell? ⟨w.heap.size, 0, none⟩ = some (.slice so sn sc) := (kz.cell (p := ⟨w.heap.size, 0, none⟩) (show w.heap.size < w1.heap.size by omega)).trans ((k1.cell (p := ⟨w.heap.size, 0, none⟩) (show w.heap.size < w.heap.size + 1 + 1 by omega)).trans q0)
  have z1 : (w1.alloc (.cells #[.slice o1 p c1, .slice o2 N c2] 30)).cell? ⟨w.heap.size, 1, none⟩ = some (.slice ao an ac) := (kz.cell (p := ⟨w.heap.size, 1, none⟩) (show w.heap.size < w1.heap.size by omega)).trans ((k1.cell (p := ⟨w.heap.size, 1, none⟩) (show w.heap.size < w.heap.size + 1 + 1 by omega)).trans q1)
  have z2 : (w1.alloc (.cells #[.slice o1 p c1, .slice o2 N c2] 30)).heap[w.heap.size + 1]? = some (.cells #[.slice none 0 0, .slice none 0 0] 30 (0, 0)) := (kz.block _ (by omega)).trans ((k1.block _ (by omega)).trans qr)
  have hsz : (w1.alloc (.cells #[.slice o1 p c1, .slice o2 N c2] 30)).heap.size = w1.heap.size + 1 := by simp
  generalize w1.alloc (.cells #[.slice o1 p c1, .slice o2 N c2] 30) = W1 at *
  clear kz q0 q1 qr qb k1 f1 f2 hfx hmk
  go_loopw [25] (fun i V => ∃ k : Nat, k ≤ N ∧ i = .int .i64 (k : Nat) ∧ Ck (w1.heap.size + 1) N k w0 W1 V (cux sh at' p)) (fun i _ => N - (intOf i).toNat)
  case atStart => exact ⟨0, Nat.zero_le _, rfl, K0⟩
  case round =>
    obtain ⟨k, hk, rfl, C⟩ := hrel
    clear K0
    by_cases hlt : k < N
    · obtain ⟨lo, hlo⟩ : ∃ lo : Nat, lo = k * z := ⟨_, rfl⟩
      obtain ⟨hi, hhi⟩ : ∃ hi : Nat, hi = (k + 1) * z := ⟨_, rfl⟩
      have hle : hi ≤ an := by rw [hhi, ← HN2.out]; exact Nat.mul_le_mul_right _ (by omega)
      have hlh : lo + z = hi := by rw [hlo, hhi, Nat.succ_mul]
      have m1 : (k : Int) * (z : Int) = (lo : Int) := by rw [hlo]; simp
      have m2 : ((k : Int) + 1) * (z : Int) = (hi : Int) := by rw [hhi]; simp
      have md : IntKind.i64.wrap ((an : Int) / (N : Int)) = (z : Int) := by
        have e : (an : Int) / (N : Int) = (z : Int) := by rw [← HN2.out, Int.natCast_mul]; exact Int.mul_ediv_cancel_left _ (by omega)
        rw [e]; exact wrapIn _ (by omega)
      have nz : ¬ (N : Int) = 0 := by omega
      have nz2 : ¬ N = 0 := by omega
      have t1 : decide ((k : Int) < (N : Int)) = true := by simp; omega
      have w1' := wrY (z := (lo : Int)) (by omega) (by omega)
      have w2' := wrY (z := (hi : Int)) (by omega) (by omega)
      have w3' := wrY (z := (k : Int) + 1) (by omega) (by omega)
      have b1 : (lo : Int) ≤ (hi : Int) := by omega
      have b2 : (hi : Int) ≤ (ac : Int) := by omega
      have b3 : (k : Int) < (N : Int) := by omega
      obtain ⟨p2, hp2⟩ : ∃ p2, (if ac = lo then ao else Option.map (fun x => x.add lo) ao) = p2 := ⟨_, rfl⟩
      obtain ⟨y1, y2⟩ := g9.subQ gs hp2 (show lo ≤ hi by omega) hle
      obtain ⟨e1, e2, c1', c2', fz1, fz2⟩ := C.slot hlt
      have r0 := (C.bel.cell (p := ⟨w.heap.size, 0, none⟩) (show w.heap.size < w1.heap.size + 1 by omega)).trans z0
      have r1 := (C.bel.cell (p := ⟨w.heap.size, 1, none⟩) (show w.heap.size < w1.heap.size + 1 by omega)).trans z1
      have C2 := C.set hlt (so := p1) (sn := sn - p) (sc := sc - p) (uo := p2) (tn := hi - lo) (tc := ac - lo) (by rw [HX.out]; exact x1) x2 (by rw [HX.out, ← hlo, show z = hi - lo by omega]; exact y1) y2
      clear hlo hhi hlh
      go_wp2
      go_region
      all_goals
        go_wp2
        go_roundw
        case rel => exact ⟨k + 1, by omega, by go_num, C2.drew⟩
        case measure => simp [intOf]; omega
    · obtain rfl : k = N := by omega
      have t1 : decide ((k : Int) < (k : Int)) = false := by simp
      obtain ⟨r0, r1, r2, r3⟩ := box2 ((C.bel.block _ (show w.heap.size + 1 < w1.heap.size + 1 by omega)).trans z2)
      obtain ⟨s0, s1', _, _⟩ := box2 ((C.bel.block _ (show w1.heap.size < w1.heap.size + 1 by omega)).trans zb)
      go_wp2
      (try simp only [Exit.inBlock, Exit.then])
      refine bodyPost_ret (v := .tuple #[.agg #[.slice o1 p c1, .slice o2 k c2], .slice (some ⟨w1.heap.size + 1, 0, none⟩) k k]) (by rw [results_cell_tmp rfl]; go_simp) rfl ?_
      have kk := set2 wr (w.heap.size + 1) 0 1 (.slice o1 p c1) (.slice o2 k c2)
      have a1 := f1z.at
      have a2 := f2z.at
      have cl := C.lt
      have bV : Below W1.heap.size W1 wr := by rw [hsz]; exact C.bel
      have BV : Below w.heap.size w wr := kall.trans (bV.mono (by omega))
      obtain ⟨cur, g1, g2, g3⟩ := C.row
      refine ⟨o1, c1, o2, c2, w1.heap.size + 1, rfl, ((f1z.below bV (Nat.le_refl _)).keep1 kk (fun b off e => ?_)).mono (by omega), ((f2z.below bV (Nat.le_refl _)).keep1 kk (fun b off e => ?_)).mono (by omega), hap, fun b off e => ?_, fun b off e => ?_, by omega, below_set2 _ _ _ _ BV (by omega) (Nat.le_refl _), hN4, below_set2 _ _ _ _ (hw0.trans (BV.mono hw0.size)) (by have := hw0.size; omega) (by have := hw0.size; omega), by have := hw0.size; omega, cur, (kk.block _ cl (fun e => by injection e with e; omega)).trans g1, g2, g3⟩
      · have := (a1 b off e).1; intro e'; cases e'; omega
      · have := (a2 b off e).1; intro e'; cases e'; omega
      · have := (a1 b off e).2; omega
      · have := (a2 b off e).2; omega

/-- How many of the lengths are the first one's. -/
def ahd (sh : List Int) : Nat := min 1 sh.length
/-- How many items there are, and what they are. -/
def itN (sh : List Int) : Nat := cun sh (ahd sh)
def itX (sh at' : List Int) (k : Nat) : List Int × List Int := cux sh at' (ahd sh) k

set_option maxHeartbeats 1000000 in
theorem itemsOf_any (so ao : Option Addr) (sn sc an ac : Nat) (sh at' : List Int) (w0 w : World) (hw0 : Below w0.heap.size w0 w) (h : Rd w0 so sn sh) (hs : Sl so sn sc) (g : Rd w0 ao an at') (gs : Sl ao an ac) (h0 : mayA sh at' = 0) :
    Calls Tryz.prog 71 #[.agg #[.slice so sn sc, .slice ao an ac]] w fun e w' => ∃ gg, e = .returned (.slice (some ⟨gg, 0, none⟩) (itN sh) (itN sh)) ∧ w.heap.size ≤ gg ∧ Below w.heap.size w w' ∧ Cq gg (itN sh) w0 w' (itX sh at') := by
  have kb := box_below w (.cells #[.slice so sn sc, .slice ao an ac] 30)
  have hb := allocNew w (.cells #[.slice so sn sc, .slice ao an ac] 30)
  have hl := h.len
  obtain ⟨p, hp⟩ : ∃ p : Nat, p = ahd sh := ⟨_, rfl⟩
  have hp' : p = min 1 sn := by rw [hp]; unfold ahd; rw [hl]
  have hc := cut_any so ao sn sc an ac sh at' p w0 _ (hw0.trans (kb.mono hw0.size)) h hs g gs h0 (by omega)
  obtain ⟨q0, q1, _, _⟩ := box2 hb
  unfold itN itX
  rw [← hp]
  clear hp h0
  generalize hcun : cun sh p = N at *
  clear hcun
  by_cases z : sn = 0
  · have q : (sn : Int) < 1 := by omega
    have ep : (p : Int) = (sn : Int) := by omega
    rw [ep] at hc
    clear ep z hp'
    go_enter Tryz.func71, Tryz.ntmps71
    go_wp2_with (first
      | (go_at_call 83; (with_reducible refine hc.mono ?_); rintro e w1 ⟨o1, c1, o2, c2, gg, rfl, f1, f2, hap, l1, l2, lg, lb, C⟩))
    go_ret
    exact ⟨gg, rfl, by simp at lg; omega, kb.trans ((lb.trans ((box_below w1 _).mono lb.size)).mono (by simp)), C.below (box_below w1 _)⟩
  · have q : ¬ (sn : Int) < 1 := by omega
    have ep : (p : Int) = 1 := by omega
    rw [ep] at hc
    clear ep z hp'
    go_enter Tryz.func71, Tryz.ntmps71
    go_wp2_with (first
      | (go_at_call 83; (with_reducible refine hc.mono ?_); rintro e w1 ⟨o1, c1, o2, c2, gg, rfl, f1, f2, hap, l1, l2, lg, lb, C⟩))
    go_ret
    exact ⟨gg, rfl, by simp at lg; omega, kb.trans ((lb.trans ((box_below w1 _).mono lb.size)).mono (by simp)), C.below (box_below w1 _)⟩
end Go.Proofs.YtmepcenbaohcoaaGreat
