
/- Ranging over a function, told by what its loop's record is between two rounds. -/

import Derived.Test.YtldhochafkcpiaaGreatAgree
import Derived.RangeFuncNested
import Derived.RangeFuncCalls
import Derived.RangeFuncLeaves
import Derived.Shelf.Abstract
import Derived.Shelf.RegionOpen
import Derived.WalkKit
import Derived.OwnWalkIn
import Derived.TacticsInMore
import Derived.LoopNIn
import Derived.LoopIn

namespace Go.Proofs.YtldhochafkcpiaaGreat

open Go.RowKit

set_option linter.unusedVariables false

theorem Fr.head {w : World} {B : Nat} {ao : Option Addr} {n cap : Nat} {zs : List Int} (h : Fr w B ao n cap zs) (h0 : 0 < n) :
    ∃ g, ao = some ⟨g, 0, none⟩ ∧ B ≤ g ∧ g < w.heap.size ∧ (∀ k, k < n → w.cell? ⟨g, k, none⟩ = some (.int .i64 (nth zs k))) ∧ ∀ k, w.frozen? ⟨g, k, none⟩ = false := by
  rcases h.own.2 with ⟨e, h1⟩ | ⟨g, c, cur, e, hb, hg, _⟩
  · omega
  · cases e
    refine ⟨g, rfl, hb, (Array.getElem?_eq_some_iff.1 hg).1, fun k hk => ?_, fun k => h.own.frozenAt k⟩
    rw [h.own.cellAt k (by omega), nth_map (by rw [h.rd.len]; exact hk)]

theorem nth_set {zs : List Int} {j k : Nat} {u : Int} (hj : j < zs.length) : nth (zs.set j u) k = if k = j then u else nth zs k := by
  unfold nth
  by_cases e : k = j
  · subst e; simp [hj]
  · rw [if_neg e]
    simp [Ne.symm e]

theorem Fr.set {w : World} {B g : Nat} {n cap : Nat} {zs : List Int} (h : Fr w B (some ⟨g, 0, none⟩) n cap zs) (j : Nat) (hj : j < n) (u : Int) (h1 : -9223372036854775808 ≤ u) (h2 : u ≤ 9223372036854775807) :
    Fr (w.setCell ⟨g, j, none⟩ (.int .i64 u)) B (some ⟨g, 0, none⟩) n cap (zs.set j u) := by
  have hl := h.rd.len
  have hs := (h.own.stored j (.int .i64 u)).1
  rw [show (zs.map (Value.int .i64)).set j (.int .i64 u) = (zs.set j u).map (Value.int .i64) by rw [List.map_set]] at hs
  obtain ⟨ao, c, e, hf⟩ := Fr.mk' (zs := zs.set j u) (by rw [List.length_set]; exact hl) h.rd.room (fun k hk => by
    rw [nth_set (by omega)]
    split
    · exact ⟨h1, h2⟩
    · exact h.rd.num k hk) hs
  cases e
  exact hf

/-- A list with ones put ahead up to N numbers: the i-th of them. -/
def ext (a : List Int) (N i : Nat) : Int := if N - a.length ≤ i then nth a (i - (N - a.length)) else 1
/-- The common shape of two. -/
def com (a b : List Int) : List Int := (List.range (Nat.max a.length b.length)).map fun i => max (ext a (Nat.max a.length b.length) i) (ext b (Nat.max a.length b.length) i)
def comK (lo sh : List Int) (k : Nat) : List Int := (List.range lo.length).map fun i => if i < k then max (nth lo i) (ext sh lo.length i) else nth lo i

theorem nth_mk (f : Nat → Int) (N k : Nat) (h : k < N) : nth ((List.range N).map f) k = f k := by simp [nth, h]
theorem com_len (a b : List Int) : (com a b).length = Nat.max a.length b.length := by simp [com]
theorem comK_len (lo sh : List Int) (k : Nat) : (comK lo sh k).length = lo.length := by simp [comK]
theorem comK_zero (lo sh : List Int) : comK lo sh 0 = lo := by
  refine ext_nth (comK_len _ _ _) fun k hk => ?_
  rw [comK_len] at hk
  unfold comK; rw [nth_mk _ _ _ hk, if_neg (by omega)]
theorem comK_succ (lo sh : List Int) (k : Nat) (hk : k < lo.length) : comK lo sh (k + 1) = (comK lo sh k).set k (max (nth lo k) (ext sh lo.length k)) := by
  refine ext_nth (by rw [List.length_set, comK_len, comK_len]) fun i hi => ?_
  rw [comK_len] at hi
  rw [nth_set (by rw [comK_len]; exact hk)]
  unfold comK
  rw [nth_mk _ _ _ hi, nth_mk _ _ _ hi]
  by_cases e : i = k
  · subst e; rw [if_pos rfl, if_pos (by omega)]
  · rw [if_neg e]
    by_cases hlt : i < k
    · rw [if_pos hlt, if_pos (by omega)]
    · rw [if_neg hlt, if_neg (by omega)]
theorem comK_at (lo sh : List Int) (k : Nat) (hk : k < lo.length) : nth (comK lo sh k) k = nth lo k := by
  unfold comK; rw [nth_mk _ _ _ hk, if_neg (by omega)]
theorem ext_self {a : List Int} {N i : Nat} (h : N = a.length) : ext a N i = nth a i := by
  subst h; unfold ext; rw [if_pos (by omega), Nat.sub_self, Nat.sub_zero]
theorem comK_left {a b : List Int} (h : b.length ≤ a.length) : comK a b a.length = com a b := by
  have hN : Nat.max a.length b.length = a.length := Nat.max_eq_left h
  refine ext_nth (by rw [comK_len, com_len, hN]) fun k hk => ?_
  rw [comK_len] at hk
  unfold comK com
  rw [nth_mk _ _ _ hk, if_pos hk, hN, nth_mk _ _ _ hk, ext_self rfl]
theorem comK_right {a b : List Int} (h : a.length ≤ b.length) : comK b a b.length = com a b := by
  have hN : Nat.max a.length b.length = b.length := Nat.max_eq_right h
  refine ext_nth (by rw [comK_len, com_len, hN]) fun k hk => ?_
  rw [comK_len] at hk
  unfold comK com
  rw [nth_mk _ _ _ hk, if_pos hk, hN, nth_mk _ _ _ hk, ext_self (a := b) rfl, Int.max_comm]

theorem com_step {wr : World} {B b1 N c k : Nat} {zs ys : List Int} {x : Int} (hN : zs.length = N) (hfr : Fr wr B (some ⟨b1, 0, none⟩) N c (comK zs ys k)) (hk : k < N) (hx : ext ys N k = x) (h1 : -9223372036854775808 ≤ x) (h2 : x ≤ 9223372036854775807) :
    Fr (wr.setCell ⟨b1, k, none⟩ (.int .i64 (if nth (comK zs ys k) k < x then x else nth (comK zs ys k) k))) B (some ⟨b1, 0, none⟩) N c (comK zs ys (k + 1)) := by
  subst hx
  subst hN
  have hnu := hfr.rd.num k hk
  rw [comK_at zs ys k hk] at hnu ⊢
  rw [comK_succ zs ys k hk]
  have e : (if nth zs k < ext ys zs.length k then ext ys zs.length k else nth zs k) = max (nth zs k) (ext ys zs.length k) := by
    by_cases c : nth zs k < ext ys zs.length k
    · rw [if_pos c]; omega
    · rw [if_neg c]; omega
  rw [e]
  exact hfr.set k hk _ (by omega) (by omega)

theorem ext_low {ys : List Int} {N m k : Nat} (hl : ys.length = m) (h : k < N - m) : ext ys N k = 1 := by
  unfold ext; rw [hl, if_neg (by omega)]
theorem ext_high {ys : List Int} {N m j : Nat} (hl : ys.length = m) : ext ys N ((N - m) + j) = nth ys j := by
  unfold ext; rw [hl, if_pos (by omega)]; congr 1; omega

set_option maxHeartbeats 2000000 in
theorem common_left (ao bo : Option Addr) (n m cap cap' : Nat) (zs ys : List Int) (w : World) (h : Rd w ao n zs) (g : Rd w bo m ys) (hnm : m < n) :
    Calls Tryz.prog 83 #[.slice ao n cap, .slice bo m cap'] w fun e w' => ∃ co c, e = .returned (.slice co n c) ∧ Fr w' w.heap.size co n c (com zs ys) ∧ Below w.heap.size w w' := by
  have hroom := h.room
  have groom := g.room
  have HL : Hid (zs.length = n) := h.len
  have GL : Hid (ys.length = m) := g.len
  have hc := copied_any ao n cap zs w h
  obtain ⟨d, hd⟩ : ∃ d, n = m + d := ⟨n - m, by omega⟩
  subst hd
  go_enter Tryz.func83, Tryz.ntmps83
  go_wp2_with (go_at_call 102; refine hc.mono ?_; rintro e w1 ⟨co, c, rfl, hf, hb⟩)
  go_loopw [29] (fun i wr => ∃ k : Nat, k ≤ m + d ∧ i = .int .i64 (k : Nat) ∧ Fr wr w.heap.size co (m + d) c (comK zs ys k) ∧ Below w.heap.size w wr) (fun i _ => m + d - (intOf i).toNat)
  case atStart => exact ⟨0, Nat.zero_le _, rfl, by rw [comK_zero]; exact hf, hb⟩
  case round =>
    obtain ⟨k, hk, rfl, hfr, hbr⟩ := hrel
    by_cases hlt : k < m + d
    · obtain ⟨b1, rfl, hB1, hB2, hc1, hz1⟩ := hfr.head (by omega)
      have gr := g.below hbr (Nat.le_refl _)
      have c1 := hc1 k hlt
      have z1 := hz1 k
      have nu := hfr.rd.num k hlt
      clear hc1 hz1 hc hf
      by_cases hkd : k < d
      · have HS := com_step (x := 1) HL.out hfr hlt (ext_low GL.out (by omega)) (by omega) (by omega)
        go_wp2
        go_roundw
        case rel => exact ⟨k + 1, by omega, by go_num, HS, hbr.setCell hB1 _⟩
        case measure => simp [intOf]; omega
      · obtain ⟨b2, off2, rfl, hb2, hc2⟩ := gr.cells (by omega)
        obtain ⟨j, rfl⟩ : ∃ j, k = d + j := ⟨k - d, by omega⟩
        have c2 := hc2 j (by omega)
        have n2 := gr.num j (by omega)
        have HS := com_step (x := nth ys j) HL.out hfr hlt (by have := ext_high (N := m + d) (j := j) GL.out; rwa [show m + d - m = d by omega] at this) n2.1 n2.2
        clear hc2
        go_wp2
        go_roundw
        case rel => exact ⟨d + j + 1, by omega, by go_num, HS, hbr.setCell hB1 _⟩
        case measure => simp [intOf]; omega
    · obtain rfl : k = m + d := by omega
      go_wp2
      go_ret
      refine ⟨co, c, rfl, ?_, hbr⟩
      have e : comK zs ys (m + d) = com zs ys := by
        have := HL.out
        have := GL.out
        rw [← HL.out]; exact comK_left (by omega)
      rw [← e]; exact hfr

set_option maxHeartbeats 2000000 in
theorem common_right (ao bo : Option Addr) (n m cap cap' : Nat) (zs ys : List Int) (w : World) (h : Rd w ao n zs) (g : Rd w bo m ys) (hnm : n ≤ m) :
    Calls Tryz.prog 83 #[.slice ao n cap, .slice bo m cap'] w fun e w' => ∃ co c, e = .returned (.slice co m c) ∧ Fr w' w.heap.size co m c (com zs ys) ∧ Below w.heap.size w w' := by
  have hroom := h.room
  have groom := g.room
  have HL : Hid (zs.length = n) := h.len
  have GL : Hid (ys.length = m) := g.len
  have hc := copied_any bo m cap' ys w g
  obtain ⟨d, hd⟩ : ∃ d, m = n + d := ⟨m - n, by omega⟩
  subst hd
  go_enter Tryz.func83, Tryz.ntmps83
  go_wp2_with (go_at_call 102; refine hc.mono ?_; rintro e w1 ⟨co, c, rfl, hf, hb⟩)
  go_loopw [29] (fun i wr => ∃ k : Nat, k ≤ n + d ∧ i = .int .i64 (k : Nat) ∧ Fr wr w.heap.size co (n + d) c (comK ys zs k) ∧ Below w.heap.size w wr) (fun i _ => n + d - (intOf i).toNat)
  case atStart => exact ⟨0, Nat.zero_le _, rfl, by rw [comK_zero]; exact hf, hb⟩
  case round =>
    obtain ⟨k, hk, rfl, hfr, hbr⟩ := hrel
    by_cases hlt : k < n + d
    · obtain ⟨b1, rfl, hB1, hB2, hc1, hz1⟩ := hfr.head (by omega)
      have gr := h.below hbr (Nat.le_refl _)
      have c1 := hc1 k hlt
      have z1 := hz1 k
      have nu := hfr.rd.num k hlt
      clear hc1 hz1 hc hf
      by_cases hkd : k < d
      · have HS := com_step (x := 1) GL.out hfr hlt (ext_low HL.out (by omega)) (by omega) (by omega)
        go_wp2
        go_roundw
        case rel => exact ⟨k + 1, by omega, by go_num, HS, hbr.setCell hB1 _⟩
        case measure => simp [intOf]; omega
      · obtain ⟨b2, off2, rfl, hb2, hc2⟩ := gr.cells (by omega)
        obtain ⟨j, rfl⟩ : ∃ j, k = d + j := ⟨k - d, by omega⟩
        have c2 := hc2 j (by omega)
        have n2 := gr.num j (by omega)
        have HS := com_step (x := nth zs j) GL.out hfr hlt (by have := ext_high (N := n + d) (j := j) HL.out; rwa [show n + d - n = d by omega] at this) n2.1 n2.2
        clear hc2
        go_wp2
        go_roundw
        case rel => exact ⟨d + j + 1, by omega, by go_num, HS, hbr.setCell hB1 _⟩
        case measure => simp [intOf]; omega
    · obtain rfl : k = n + d := by omega
      go_wp2
      go_ret
      refine ⟨co, c, rfl, ?_, hbr⟩
      have e : comK ys zs (n + d) = com zs ys := by
        have := HL.out
        have := GL.out
        rw [← GL.out]; exact comK_right (by omega)
      rw [← e]; exact hfr

/-- commonOf: the common shape of two, in memory of its own. -/
theorem common_any (ao bo : Option Addr) (n m cap cap' : Nat) (zs ys : List Int) (w : World) (h : Rd w ao n zs) (g : Rd w bo m ys) :
    Calls Tryz.prog 83 #[.slice ao n cap, .slice bo m cap'] w fun e w' => ∃ co k c, e = .returned (.slice co k c) ∧ Fr w' w.heap.size co k c (com zs ys) ∧ Below w.heap.size w w' := by
  by_cases hnm : m < n
  · exact (common_left ao bo n m cap cap' zs ys w h g hnm).mono fun e w' ⟨a, c, e1, e2, e3⟩ => ⟨a, _, c, e1, e2, e3⟩
  · exact (common_right ao bo n m cap cap' zs ys w h g (by omega)).mono fun e w' ⟨a, c, e1, e2, e3⟩ => ⟨a, _, c, e1, e2, e3⟩
end Go.Proofs.YtldhochafkcpiaaGreat


namespace Go.Proofs.YtldhochafkcpiaaGreat

open Go.RowKit

set_option linter.unusedVariables false

/-- The k-th of some lists. -/
def row (zss : List (List Int)) (k : Nat) : List Int := zss.getD k []

/-- A slice of slices of numbers reads as these lists. -/
structure Rs (w : World) (ao : Option Addr) (n : Nat) (zss : List (List Int)) : Prop where
  len : zss.length = n
  room : n * 24 ≤ 140737488355328
  cells : 0 < n → ∃ b off, ao = some ⟨b, off, none⟩ ∧ b < w.heap.size ∧ ∀ k, k < n → ∃ A L C, w.cell? ⟨b, off + k, none⟩ = some (.slice A L C) ∧ Rd w A L (row zss k) ∧ Sl A L C

theorem Rs.below {B : Nat} {w w' : World} {ao : Option Addr} {n : Nat} {zss : List (List Int)} (h : Rs w ao n zss) (hb : Below B w w') (hB : w.heap.size ≤ B) : Rs w' ao n zss := by
  refine ⟨h.len, h.room, fun h0 => ?_⟩
  obtain ⟨b, off, e, hl, hc⟩ := h.cells h0
  refine ⟨b, off, e, Nat.lt_of_lt_of_le hl hb.size, fun k hk => ?_⟩
  obtain ⟨A, L, C, h1, h2, h3⟩ := hc k hk
  exact ⟨A, L, C, by rw [hb.cell (p := ⟨b, off + k, none⟩) (Nat.lt_of_lt_of_le hl hB)]; exact h1, h2.below hb hB, h3⟩

/-- The common shape of the first k (of none: the first one). -/
def cst (zss : List (List Int)) : Nat → List Int
  | 0 => row zss 0
  | k + 1 => com (cst zss k) (row zss k)
def errAt (zss : List (List Int)) (k : Nat) : Int := if mayF (row zss k) ≠ 0 then mayF (row zss k) else mayF (cst zss (k + 1))
/-- The first error of the first k. -/
def cE (zss : List (List Int)) : Nat → Int
  | 0 => 0
  | k + 1 => if cE zss k ≠ 0 then cE zss k else errAt zss k
def covE (zss : List (List Int)) : Int := if zss.length = 0 then 1 else cE zss zss.length
def covL (zss : List (List Int)) : List Int := if covE zss = 0 then cst zss zss.length else []

theorem cE_stay {zss : List (List Int)} {k : Nat} (h : cE zss k ≠ 0) : ∀ m, cE zss (k + m) = cE zss k
  | 0 => rfl
  | m + 1 => by
    show (if cE zss (k + m) ≠ 0 then cE zss (k + m) else errAt zss (k + m)) = _
    rw [cE_stay h m, if_pos h]
theorem cov_bad {zss : List (List Int)} {k n : Nat} {e : Int} (hl : zss.length = n) (hk : k < n) (h : cE zss (k + 1) = e) (he : e ≠ 0) : covE zss = e ∧ covL zss = [] := by
  have h1 : covE zss = e := by
    unfold covE; rw [if_neg (by omega), hl, show n = (k + 1) + (n - (k + 1)) by omega, cE_stay (by rw [h]; exact he), h]
  exact ⟨h1, by unfold covL; rw [h1, if_neg he]⟩
theorem cov_good {zss : List (List Int)} {n : Nat} (hl : zss.length = n) (h0 : 0 < n) (h : cE zss n = 0) : covE zss = 0 ∧ covL zss = cst zss n := by
  have h1 : covE zss = 0 := by unfold covE; rw [if_neg (by omega), hl, h]
  exact ⟨h1, by unfold covL; rw [h1, if_pos rfl, hl]⟩
theorem cE_row {zss : List (List Int)} {k : Nat} (h : cE zss k = 0) (hr : mayF (row zss k) ≠ 0) : cE zss (k + 1) = mayF (row zss k) := by
  show (if cE zss k ≠ 0 then cE zss k else errAt zss k) = _
  rw [if_neg (by simp [h])]; unfold errAt; rw [if_pos hr]
theorem cE_com {zss : List (List Int)} {k : Nat} (h : cE zss k = 0) (hr : mayF (row zss k) = 0) : cE zss (k + 1) = mayF (cst zss (k + 1)) := by
  show (if cE zss k ≠ 0 then cE zss k else errAt zss k) = _
  rw [if_neg (by simp [h])]; unfold errAt; rw [if_neg (by simp [hr])]

set_option maxHeartbeats 4000000 in
theorem cover_any (ao : Option Addr) (n cap : Nat) (zss : List (List Int)) (w : World) (h : Rs w ao n zss) :
    Calls Tryz.prog 53 #[.slice ao n cap] w fun e w' => ∃ co k c, e = .returned (.tuple #[.slice co k c, .int .i64 (covE zss)]) ∧ Fr w' w.heap.size co k c (covL zss) ∧ Below w.heap.size w w' := by
  have hroom := h.room
  have HL : Hid (zss.length = n) := h.len
  by_cases h0 : n = 0
  · subst h0
    go_enter Tryz.func53, Tryz.ntmps53
    go_wp2
    go_ret2
    have e1 : covE zss = 1 := by unfold covE; rw [if_pos HL.out]
    refine ⟨_, _, _, ret_lone rfl rfl rfl e1.symm, ?_, Below.refl _ _⟩
    unfold covL; rw [e1, if_neg (by omega)]; exact Fr.nil _ _
  · obtain ⟨b, off, rfl, hb, hc⟩ := h.cells (by omega)
    obtain ⟨A0, L0, C0, c0, r0, s0⟩ := hc 0 (by omega)
    have h0' : ((n : Int) == 0) = false := by simp; omega
    rw [Nat.add_zero] at c0
    go_enter Tryz.func53, Tryz.ntmps53
    go_wp2
    go_loopw [4, 17] (fun v i wr => ∃ k : Nat, k ≤ n ∧ i = .int .i64 (k : Nat) ∧ cE zss k = 0 ∧ (∃ co m c, v = .slice co m c ∧ Rd wr co m (cst zss k) ∧ (0 < k → Fr wr w.heap.size co m c (cst zss k))) ∧ Below w.heap.size w wr) (fun _ i _ => n - (intOf i).toNat)
    case atStart => exact ⟨0, Nat.zero_le _, rfl, rfl, ⟨A0, L0, C0, rfl, r0, fun h => by omega⟩, Below.refl _ _⟩
    case round =>
      obtain ⟨k, hk, rfl, hE, ⟨co, m, c, rfl, hrd, hfr⟩, hbr⟩ := hrel
      have HE : Hid (cE zss k = 0) := hE
      clear hE
      by_cases hlt : k < n
      · obtain ⟨A, L, C, c1, r1, s1⟩ := hc k hlt
        rw [← hbr.cell (p := ⟨b, off + k, none⟩) hb] at c1
        have r1' := r1.below hbr (Nat.le_refl _)
        clear c0 hc r1 hfr
        have hmay := fun W (hW : Rd W A L (row zss k)) => may_any A L C (row zss k) W hW
        have hcom := fun W (h1 : Rd W co m (cst zss k)) (h2 : Rd W A L (row zss k)) => common_any co A m L c C _ _ W h1 h2
        by_cases hr : mayF (row zss k) = 0
        · have HR : Hid (mayF (row zss k) = 0) := hr
          rw [hr] at hmay
          clear hr
          by_cases hcm : mayF (cst zss (k + 1)) = 0
          · have hm2 : ∀ W co k' c', Rd W co k' (com (cst zss k) (row zss k)) → Calls Tryz.prog 22 #[.slice co k' c'] W fun e w' => e = .returned (.int .i64 0) ∧ w' = W := fun W co k' c' hW => by
              have := may_any co k' c' _ W hW
              rwa [show mayF (com (cst zss k) (row zss k)) = 0 from hcm] at this
            have HC : Hid (mayF (cst zss (k + 1)) = 0) := hcm
            clear hcm
            go_wp2_with (first | (go_at_call 22; refine (hmay _ (by assumption)).mono ?_; clear hmay; rintro e w' ⟨rfl, hw⟩; subst hw) | (go_at_call 83; refine (hcom _ (by assumption) (by assumption)).mono ?_; rintro e w2 ⟨co2, k2, c2, rfl, hf2, hb2⟩; have hrd2 := hf2.rd) | (go_at_call 22; refine (hm2 _ _ _ _ (by assumption)).mono ?_; rintro e w' ⟨rfl, hw⟩; subst hw))
            go_roundw
            case rel => exact ⟨k + 1, by omega, by go_num, by rw [cE_com HE.out HR.out, HC.out], ⟨_, _, _, rfl, hrd2, fun _ => hf2.mono hbr.size⟩, hbr.trans (hb2.mono hbr.size)⟩
            case measure => simp [intOf]; omega
          · have hcm' : (mayF (com (cst zss k) (row zss k)) != 0) = true := by
              have : mayF (com (cst zss k) (row zss k)) ≠ 0 := hcm
              simpa using this
            have HC : Hid (mayF (cst zss (k + 1)) ≠ 0) := hcm
            have hm2 : ∀ W co k' c', Rd W co k' (com (cst zss k) (row zss k)) → Calls Tryz.prog 22 #[.slice co k' c'] W fun e w' => e = .returned (.int .i64 (mayF (com (cst zss k) (row zss k)))) ∧ w' = W := fun W co k' c' hW => may_any co k' c' _ W hW
            clear hcm
            go_wp2_with (first | (go_at_call 22; refine (hmay _ (by assumption)).mono ?_; clear hmay; rintro e w' ⟨rfl, hw⟩; subst hw) | (go_at_call 83; refine (hcom _ (by assumption) (by assumption)).mono ?_; rintro e w2 ⟨co2, k2, c2, rfl, hf2, hb2⟩; have hrd2 := hf2.rd) | (go_at_call 22; refine (hm2 _ _ _ _ (by assumption)).mono ?_; rintro e w' ⟨rfl, hw⟩; subst hw))
            go_ret2
            have := cov_bad HL.out hlt (cE_com HE.out HR.out) HC.out
            refine ⟨_, _, _, ret_lone rfl rfl rfl this.1.symm, ?_, hbr.trans (hb2.mono hbr.size)⟩
            rw [this.2]; exact Fr.nil _ _
        · have hr' : (mayF (row zss k) != 0) = true := by simpa using hr
          have HR : Hid (mayF (row zss k) ≠ 0) := hr
          clear hr
          go_wp2_with (go_at_call 22; refine (hmay _ (by assumption)).mono ?_; clear hmay; rintro e w' ⟨rfl, hw⟩; subst hw)
          go_ret2
          have := cov_bad HL.out hlt (cE_row HE.out HR.out) HR.out
          refine ⟨_, _, _, ret_lone rfl rfl rfl this.1.symm, ?_, hbr⟩
          rw [this.2]; exact Fr.nil _ _
      · obtain rfl : k = n := by omega
        go_wp2
        go_ret2
        have := cov_good HL.out (by omega) HE.out
        refine ⟨_, _, _, ret_lone rfl rfl rfl this.1.symm, ?_, hbr⟩
        rw [this.2]; exact hfr (by omega)
end Go.Proofs.YtldhochafkcpiaaGreat












namespace Go.Proofs.YtldhochafkcpiaaGreat

open Go.RowKit Go.Shelf

set_option linter.unusedVariables false

/-- What stays of a loop while it goes round. -/
structure Lp where
  fn : FuncId
  tmps : Array Value
  ps : Array Tmp
  assign : Code
  body : Code
  own : Nat

def Lp.is (L : Lp) (st : LoopState) (pe : Option Code) (l : Nat) (W : World) : Prop :=
  W.heap[l]? = some (.loop { state := st, pending := pe, fn := L.fn, tmps := L.tmps, params := L.ps, assign := L.assign, body := L.body, defers := L.own }) ∧ W.heap[L.own]? = some (.deferred (some [])) ∧ l ≠ L.own

theorem Lp.is.kept {L : Lp} {st : LoopState} {pe : Option Code} {l : Nat} {W W' : World} {row : Option Nat} (h : L.is st pe l W) (hg : W.grownBy W' row) (h1 : some l ≠ row) (h2 : some L.own ≠ row) : L.is st pe l W' :=
  ⟨(hg.block l (Array.getElem?_eq_some_iff.1 h.1).1 h1).trans h.1, (hg.block L.own (Array.getElem?_eq_some_iff.1 h.2.1).1 h2).trans h.2.1, h.2.2⟩
theorem Lp.is.below {L : Lp} {st : LoopState} {pe : Option Code} {l B : Nat} {W W' : World} (h : L.is st pe l W) (hg : Below B W W') (h1 : W.heap.size ≤ B) : L.is st pe l W' :=
  ⟨(hg.block l (Nat.lt_of_lt_of_le (Array.getElem?_eq_some_iff.1 h.1).1 h1)).trans h.1, (hg.block L.own (Nat.lt_of_lt_of_le (Array.getElem?_eq_some_iff.1 h.2.1).1 h1)).trans h.2.1, h.2.2⟩

def Lp.turn (L : Lp) (st : LoopState) (pe : Option Code) (l : Nat) (W : World) : World :=
  W.putObj l (.loop { state := st, pending := pe, fn := L.fn, tmps := L.tmps, params := L.ps, assign := L.assign, body := L.body, defers := L.own })
theorem Lp.is.turned {L : Lp} {st st' : LoopState} {pe pe' : Option Code} {l : Nat} {W : World} (h : L.is st pe l W) : L.is st' pe' l (L.turn st' pe' l W) :=
  ⟨World.putObj_heap_same (Array.getElem?_eq_some_iff.1 h.1).1, (World.putObj_heap_other (Ne.symm h.2.2)).trans h.2.1, h.2.2⟩
theorem Lp.turn_grown (L : Lp) (st : LoopState) (pe : Option Code) (l : Nat) (W : World) : W.grownBy (L.turn st pe l W) (some l) := grownBy_putObj' W l _

/-- How a round may be left: it goes on, or it leaves by a jump. -/
def rPost (L : Lp) (l : Nat) (K : World → Prop) (X : Code → World → Prop) : Exit → Act → World → Prop
  | .normal, _, W => L.is .busy none l W ∧ ∀ W', W.grownBy W' (some l) → K W'
  | .ret, _, W => L.is .busy none l W ∧ ∀ W', W.grownBy W' (some l) → X .ret W'
  | .exit id, _, W => L.is .busy none l W ∧ ∀ W', W.grownBy W' (some l) → X (.exit id) W'
  | .goto t, _, W => L.is .busy none l W ∧ ∀ W', W.grownBy W' (some l) → X (.goto t) W'
  | .panic _, _, _ => False
  | .outgrown, _, _ => False

/-- One round. -/
theorem yield_round {L : Lp} {l m : Nat} {P : Program} {args : Array Value} {W : World} {K : World → Prop} {X : Code → World → Prop} {tmps : Array Value} {ps : Array Tmp} {assign body : Code}
    (eT : L.tmps = tmps) (eP : L.ps = ps) (eA : L.assign = assign) (eB : L.body = body) (hr : L.is .ready none l W) (hs : args.size = ps.size)
    (h : assign.wpIn (Fence.wide.inRound l) m P (Exit.then (fun a1 W1 => L.is .ready none l W1 ∧ ∀ W2, L.is .busy none l W2 → W1.grownBy W2 (some l) → body.wpIn (Fence.wide.inRound l) m P (rPost L l K X) a1 W2) (fun _ _ _ => False))
      { tmps := (ps.zip args).foldl (fun t (p, v) => t.setIfInBounds p v) tmps, defers := [] } W) :
    YieldAt Fence.wide m P l args W fun e W' => (e = .returned (.bool true) ∧ L.is .ready none l W' ∧ K W') ∨ (e = .returned (.bool false) ∧ ∃ c, L.is .done (some c) l W' ∧ X c W') := by
  subst eT eP eA eB
  refine ⟨L.fn, _, L.assign, L.body, run_yield (P := P) (args := args) hr.1 hs, roundIn_of_wpIn trivial (wpIn_mono h ?_)⟩
  rintro e a1 W1 hp
  cases e with
  | normal =>
    obtain ⟨hr1, hb⟩ := hp
    refine ⟨_, run_beginRound hr1.1 rfl, wpIn_mono (hb _ hr1.turned (Lp.turn_grown L .busy none l W1)) ?_⟩
    rintro e a2 W2 hq
    cases e with
    | normal => exact ⟨_, _, run_endRound (P := P) none hq.1.1, .inl ⟨rfl, hq.1.turned, hq.2 _ (Lp.turn_grown L .ready none l W2)⟩⟩
    | ret => exact ⟨_, _, run_endRound (P := P) (some .ret) hq.1.1, .inr ⟨rfl, _, hq.1.turned, hq.2 _ (Lp.turn_grown L .done (some .ret) l W2)⟩⟩
    | exit id => exact ⟨_, _, run_endRound (P := P) (some (.exit id)) hq.1.1, .inr ⟨rfl, _, hq.1.turned, hq.2 _ (Lp.turn_grown L .done (some (.exit id)) l W2)⟩⟩
    | goto t => exact ⟨_, _, run_endRound (P := P) (some (.goto t)) hq.1.1, .inr ⟨rfl, _, hq.1.turned, hq.2 _ (Lp.turn_grown L .done (some (.goto t)) l W2)⟩⟩
    | panic c => exact hq.elim
    | outgrown => exact hq.elim
  | ret => exact hp.elim
  | exit id => exact hp.elim
  | goto t => exact hp.elim
  | panic c => exact hp.elim
  | outgrown => exact hp.elim

/-- The statement: the function is called once, its rounds are met where it calls what it was handed. -/
theorem range_over {n : Nat} {P : Program} {g : Operand} {ps : Array Tmp} {assign body : Code} {Q : Exit → Act → World → Prop} {a : Act} {w : World} {gf : Nat} {lb : Array Value}
    (hg : a.eval g = .func (.func gf) #[] lb) (eg : ∀ args w, (callFunc gf args).run P w = .ok (.enter gf args) w) (E : World → Prop) (X : Code → World → Prop)
    (hit : ∀ (L : Lp) (l : Nat) (W : World), L.tmps = a.tmps → L.ps = ps → L.assign = assign → L.body = body → L.own = w.heap.size → l = w.heap.size + 1 → L.is .ready none l W → Below w.heap.size w W → W.heap.size = w.heap.size + 2 →
      CallsIn Fence.wide (n - 1) P gf (#[.func (.yield l) #[] #[]] ++ lb) W fun e W' => (∃ v, e = .returned v) ∧ ((L.is .ready none l W' ∧ ∀ W'', W'.grownBy W'' (some l) → E W'') ∨ ∃ c, L.is .done (some c) l W' ∧ ∀ W'', W'.grownBy W'' (some l) → X c W''))
    (hdone : ∀ W, W.heap[w.heap.size]? = some (.deferred (some [])) → E W → Q .normal { a with defers := { target := .collected w.heap.size, args := #[] } :: a.defers } W)
    (hstop : ∀ c W, W.heap[w.heap.size]? = some (.deferred (some [])) → X c W → c.wpIn Fence.wide n P Q { a with defers := { target := .collected w.heap.size, args := #[] } :: a.defers } W) :
    (Code.rangeFunc g ps assign body).wpIn Fence.wide n P Q a w := by
  refine wpIn_rangeFunc fun fn hfn => ?_
  have h0 : ((w.alloc (.deferred (some []))).alloc (.loop { state := .ready, pending := none, fn := fn, tmps := a.tmps, params := ps, assign := assign, body := body, defers := w.heap.size })).heap.size = w.heap.size + 2 := by simp
  obtain ⟨W, hW⟩ : ∃ W, (w.alloc (.deferred (some []))).alloc (.loop { state := .ready, pending := none, fn := fn, tmps := a.tmps, params := ps, assign := assign, body := body, defers := w.heap.size }) = W := ⟨_, rfl⟩
  have hr : (Lp.mk fn a.tmps ps assign body w.heap.size).is .ready none (w.heap.size + 1) W := by
    rw [← hW]
    refine ⟨?_, ?_, by simp⟩
    · have := World.alloc_heap_new (w.alloc (.deferred (some []))) (.loop { state := .ready, pending := none, fn := fn, tmps := a.tmps, params := ps, assign := assign, body := body, defers := w.heap.size })
      rwa [World.size_alloc] at this
    · exact (Below.heap_alloc _ _ _ (by simp)).trans (World.alloc_heap_new w _)
  have hb : Below w.heap.size w W := by rw [← hW]; exact ((Below.refl _ w).alloc (Nat.le_refl _) _).alloc (by simp) _
  rw [hW] at h0
  refine ⟨w.heap.size + 1, [{ target := .collected w.heap.size, args := #[] }], W, { target := .fn (.func gf) lb, args := #[.func (.yield (w.heap.size + 1)) #[] #[]] }, W, gf, #[.func (.yield (w.heap.size + 1)) #[] #[]] ++ lb, W, ?_, ?_, ?_, ?_, ?_, ?_⟩
  · rw [← hW]; exact run_enterLoop_outer _ _ _ _ _
  · simp only [resolve, hg]; simp [go_sem]
  · exact fun _ _ => trivial
  · simp [invoke, go_sem, eg]
  · intro h; cases h
  · refine (hit _ _ W rfl rfl rfl rfl rfl rfl hr hb h0).mono ?_
    rintro e W2 ⟨⟨v, rfl⟩, ⟨h1, h2⟩ | ⟨c, h1, h2⟩⟩
    · exact ⟨none, _, run_endLoop (P := P) h1.1 (by simp), hdone _ ((World.putObj_heap_other (Ne.symm h1.2.2)).trans h1.2.1) (h2 _ (grownBy_putObj' W2 _ _))⟩
    · exact ⟨some c, _, run_endLoop (P := P) h1.1 (by simp), hstop c _ ((World.putObj_heap_other (Ne.symm h1.2.2)).trans h1.2.1) (h2 _ (grownBy_putObj' W2 _ _))⟩

theorem Rd.kept {w w' : World} {row : Option Nat} {ao : Option Addr} {n : Nat} {zs : List Int} (h : Rd w ao n zs) (hg : w.grownBy w' row) (hne : ∀ b off, ao = some ⟨b, off, none⟩ → some b ≠ row) : Rd w' ao n zs := by
  refine ⟨h.len, h.room, h.num, fun h0 => ?_⟩
  obtain ⟨b, off, e, hl, hc⟩ := h.cells h0
  exact ⟨b, off, e, Nat.lt_of_lt_of_le hl hg.size, fun k hk => hg.cell (hc k hk) (hne b off e)⟩

theorem Fr.kept {w w' : World} {B : Nat} {row : Option Nat} {ao : Option Addr} {n cap : Nat} {zs : List Int} (h : Fr w B ao n cap zs) (hg : w.grownBy w' row) (hne : ∀ b off, ao = some ⟨b, off, none⟩ → some b ≠ row) : Fr w' B ao n cap zs := by
  refine ⟨h.rd.kept hg hne, h.own.1, ?_⟩
  rcases h.own.2 with h0 | ⟨g, c, cur, e, hb, hgg, r⟩
  · exact .inl h0
  · exact .inr ⟨g, c, cur, e, hb, by rw [hg.block g (Array.getElem?_eq_some_iff.1 hgg).1 (by cases e; exact hne g 0 rfl)]; exact hgg, r⟩
end Go.Proofs.YtldhochafkcpiaaGreat
