
/- Contract of package shape's commonOf. -/

import Derived.Test.YtdeglhifemmknaaAgree

namespace Go.Proofs.Ytdeglhifemmknaa

open Go.RowKit

set_option linter.unusedVariables false

theorem Fr.head {w : World} {B : Nat} {ao : Option Addr} {n cap : Nat} {zs : List Int} (h : Fr w B ao n cap zs) (h0 : 0 < n) :
    ∃ g, ao = some ⟨g, 0, none⟩ ∧ B ≤ g ∧ g < w.heap.size ∧ (∀ k, k < n → w.cell? ⟨g, k, none⟩ = some (.int .i64 (nth zs k))) ∧ ∀ k, w.frozen? ⟨g, k, none⟩ = false := by
  rcases h.own.2 with ⟨e, h1⟩ | ⟨g, c, cur, e, hb, hg, _⟩
  · omega
  · cases e
    refine ⟨g, rfl, hb, (Array.getElem?_eq_some_iff.1 hg).1, fun k hk => ?_, fun k => h.own.frozenAt k⟩
    rw [h.own.cellAt k (by omega), nth_map (by rw [h.rd.len]; exact hk)]

theorem nth_set {zs : List Int} {j k : Nat} {u : Int} (hj : j < zs.length) : nth (zs.set j u) k = if k = j then u else nth zs k := by
  unfold nth
  by_cases e : k = j
  · subst e; simp [hj]
  · rw [if_neg e]
    simp [Ne.symm e]

theorem Fr.set {w : World} {B g : Nat} {n cap : Nat} {zs : List Int} (h : Fr w B (some ⟨g, 0, none⟩) n cap zs) (j : Nat) (hj : j < n) (u : Int) (h1 : -9223372036854775808 ≤ u) (h2 : u ≤ 9223372036854775807) :
    Fr (w.setCell ⟨g, j, none⟩ (.int .i64 u)) B (some ⟨g, 0, none⟩) n cap (zs.set j u) := by
  have hl := h.rd.len
  have hs := (h.own.stored j (.int .i64 u)).1
  rw [show (zs.map (Value.int .i64)).set j (.int .i64 u) = (zs.set j u).map (Value.int .i64) by rw [List.map_set]] at hs
  obtain ⟨ao, c, e, hf⟩ := Fr.mk' (zs := zs.set j u) (by rw [List.length_set]; exact hl) h.rd.room (fun k hk => by
    rw [nth_set (by omega)]
    split
    · exact ⟨h1, h2⟩
    · exact h.rd.num k hk) hs
  cases e
  exact hf

/-- A list with ones put ahead up to N numbers: the i-th of them. -/
def ext (a : List Int) (N i : Nat) : Int := if N - a.length ≤ i then nth a (i - (N - a.length)) else 1
/-- The common shape of two. -/
def com (a b : List Int) : List Int := (List.range (Nat.max a.length b.length)).map fun i => max (ext a (Nat.max a.length b.length) i) (ext b (Nat.max a.length b.length) i)
def comK (lo sh : List Int) (k : Nat) : List Int := (List.range lo.length).map fun i => if i < k then max (nth lo i) (ext sh lo.length i) else nth lo i

theorem nth_mk (f : Nat → Int) (N k : Nat) (h : k < N) : nth ((List.range N).map f) k = f k := by simp [nth, h]
theorem com_len (a b : List Int) : (com a b).length = Nat.max a.length b.length := by simp [com]
theorem comK_len (lo sh : List Int) (k : Nat) : (comK lo sh k).length = lo.length := by simp [comK]
theorem comK_zero (lo sh : List Int) : comK lo sh 0 = lo := by
  refine ext_nth (comK_len _ _ _) fun k hk => ?_
  rw [comK_len] at hk
  unfold comK; rw [nth_mk _ _ _ hk, if_neg (by omega)]
theorem comK_succ (lo sh : List Int) (k : Nat) (hk : k < lo.length) : comK lo sh (k + 1) = (comK lo sh k).set k (max (nth lo k) (ext sh lo.length k)) := by
  refine ext_nth (by rw [List.length_set, comK_len, comK_len]) fun i hi => ?_
  rw [comK_len] at hi
  rw [nth_set (by rw [comK_len]; exact hk)]
  unfold comK
  rw [nth_mk _ _ _ hi, nth_mk _ _ _ hi]
  by_cases e : i = k
  · subst e; rw [if_pos rfl, if_pos (by omega)]
  · rw [if_neg e]
    by_cases hlt : i < k
    · rw [if_pos hlt, if_pos (by omega)]
    · rw [if_neg hlt, if_neg (by omega)]
theorem comK_at (lo sh : List Int) (k : Nat) (hk : k < lo.length) : nth (comK lo sh k) k = nth lo k := by
  unfold comK; rw [nth_mk _ _ _ hk, if_neg (by omega)]
theorem ext_self {a : List Int} {N i : Nat} (h : N = a.length) : ext a N i = nth a i := by
  subst h; unfold ext; rw [if_pos (by omega), Nat.sub_self, Nat.sub_zero]
theorem comK_left {a b : List Int} (h : b.length ≤ a.length) : comK a b a.length = com a b := by
  have hN : Nat.max a.length b.length = a.length := Nat.max_eq_left h
  refine ext_nth (by rw [comK_len, com_len, hN]) fun k hk => ?_
  rw [comK_len] at hk
  unfold comK com
  rw [nth_mk _ _ _ hk, if_pos hk, hN, nth_mk _ _ _ hk, ext_self rfl]
theorem comK_right {a b : List Int} (h : a.length ≤ b.length) : comK b a b.length = com a b := by
  have hN : Nat.max a.length b.length = b.length := Nat.max_eq_right h
  refine ext_nth (by rw [comK_len, com_len, hN]) fun k hk => ?_
  rw [comK_len] at hk
  unfold comK com
  rw [nth_mk _ _ _ hk, if_pos hk, hN, nth_mk _ _ _ hk, ext_self (a := b) rfl, Int.max_comm]

theorem com_step {wr : World} {B b1 N c k : Nat} {zs ys : List Int} {x : Int} (hN : zs.length = N) (hfr : Fr wr B (some ⟨b1, 0, none⟩) N c (comK zs ys k)) (hk : k < N) (hx : ext ys N k = x) (h1 : -9223372036854775808 ≤ x) (h2 : x ≤ 9223372036854775807) :
    Fr (wr.setCell ⟨b1, k, none⟩ (.int .i64 (if nth (comK zs ys k) k < x then x else nth (comK zs ys k) k))) B (some ⟨b1, 0, none⟩) N c (comK zs ys (k + 1)) := by
  subst hx
  subst hN
  have hnu := hfr.rd.num k hk
  rw [comK_at zs ys k hk] at hnu ⊢
  rw [comK_succ zs ys k hk]
  have e : (if nth zs k < ext ys zs.length k then ext ys zs.length k else nth zs k) = max (nth zs k) (ext ys zs.length k) := by
    by_cases c : nth zs k < ext ys zs.length k
    · rw [if_pos c]; omega
    · rw [if_neg c]; omega
  rw [e]
  exact hfr.set k hk _ (by omega) (by omega)

theorem ext_low {ys : List Int} {N m k : Nat} (hl : ys.length = m) (h : k < N - m) : ext ys N k = 1 := by
  unfold ext; rw [hl, if_neg (by omega)]
theorem ext_high {ys : List Int} {N m j : Nat} (hl : ys.length = m) : ext ys N ((N - m) + j) = nth ys j := by
  unfold ext; rw [hl, if_pos (by omega)]; congr 1; omega

set_option maxHeartbeats 2000000 in
theorem common_left (ao bo : Option Addr) (n m cap cap' : Nat) (zs ys : List Int) (w : World) (h : Rd w ao n zs) (g : Rd w bo m ys) (hnm : m < n) :
    Calls Try.prog 30 #[.slice ao n cap, .slice bo m cap'] w fun e w' => ∃ co c, e = .returned (.slice co n c) ∧ Fr w' w.heap.size co n c (com zs ys) ∧ Below w.heap.size w w' := by
  have hroom := h.room
  have groom := g.room
  have HL : Hid (zs.length = n) := h.len
  have GL : Hid (ys.length = m) := g.len
  have hc := copied_any ao n cap zs w h
  obtain ⟨d, hd⟩ : ∃ d, n = m + d := ⟨n - m, by omega⟩
  subst hd
  go_enter Try.func30, Try.ntmps30
  go_wp2_with (go_at_call 28; refine hc.mono ?_; rintro e w1 ⟨co, c, rfl, hf, hb⟩)
  go_loopw [29] (fun i wr => ∃ k : Nat, k ≤ m + d ∧ i = .int .i64 (k : Nat) ∧ Fr wr w.heap.size co (m + d) c (comK zs ys k) ∧ Below w.heap.size w wr) (fun i _ => m + d - (intOf i).toNat)
  case atStart => exact ⟨0, Nat.zero_le _, rfl, by rw [comK_zero]; exact hf, hb⟩
  case round =>
    obtain ⟨k, hk, rfl, hfr, hbr⟩ := hrel
    by_cases hlt : k < m + d
    · obtain ⟨b1, rfl, hB1, hB2, hc1, hz1⟩ := hfr.head (by omega)
      have gr := g.below hbr (Nat.le_refl _)
      have c1 := hc1 k hlt
      have z1 := hz1 k
      have nu := hfr.rd.num k hlt
      clear hc1 hz1 hc hf
      by_cases hkd : k < d
      · have HS := com_step (x := 1) HL.out hfr hlt (ext_low GL.out (by omega)) (by omega) (by omega)
        go_wp2
        go_roundw
        case rel => exact ⟨k + 1, by omega, by go_num, HS, hbr.setCell hB1 _⟩
        case measure => simp [intOf]; omega
      · obtain ⟨b2, off2, rfl, hb2, hc2⟩ := gr.cells (by omega)
        obtain ⟨j, rfl⟩ : ∃ j, k = d + j := ⟨k - d, by omega⟩
        have c2 := hc2 j (by omega)
        have n2 := gr.num j (by omega)
        have HS := com_step (x := nth ys j) HL.out hfr hlt (by have := ext_high (N := m + d) (j := j) GL.out; rwa [show m + d - m = d by omega] at this) n2.1 n2.2
        clear hc2
        go_wp2
        go_roundw
        case rel => exact ⟨d + j + 1, by omega, by go_num, HS, hbr.setCell hB1 _⟩
        case measure => simp [intOf]; omega
    · obtain rfl : k = m + d := by omega
      go_wp2
      go_ret
      refine ⟨co, c, rfl, ?_, hbr⟩
      have e : comK zs ys (m + d) = com zs ys := by
        have := HL.out
        have := GL.out
        rw [← HL.out]; exact comK_left (by omega)
      rw [← e]; exact hfr

set_option maxHeartbeats 2000000 in
theorem common_right (ao bo : Option Addr) (n m cap cap' : Nat) (zs ys : List Int) (w : World) (h : Rd w ao n zs) (g : Rd w bo m ys) (hnm : n ≤ m) :
    Calls Try.prog 30 #[.slice ao n cap, .slice bo m cap'] w fun e w' => ∃ co c, e = .returned (.slice co m c) ∧ Fr w' w.heap.size co m c (com zs ys) ∧ Below w.heap.size w w' := by
  have hroom := h.room
  have groom := g.room
  have HL : Hid (zs.length = n) := h.len
  have GL : Hid (ys.length = m) := g.len
  have hc := copied_any bo m cap' ys w g
  obtain ⟨d, hd⟩ : ∃ d, m = n + d := ⟨m - n, by omega⟩
  subst hd
  go_enter Try.func30, Try.ntmps30
  go_wp2_with (go_at_call 28; refine hc.mono ?_; rintro e w1 ⟨co, c, rfl, hf, hb⟩)
  go_loopw [29] (fun i wr => ∃ k : Nat, k ≤ n + d ∧ i = .int .i64 (k : Nat) ∧ Fr wr w.heap.size co (n + d) c (comK ys zs k) ∧ Below w.heap.size w wr) (fun i _ => n + d - (intOf i).toNat)
  case atStart => exact ⟨0, Nat.zero_le _, rfl, by rw [comK_zero]; exact hf, hb⟩
  case round =>
    obtain ⟨k, hk, rfl, hfr, hbr⟩ := hrel
    by_cases hlt : k < n + d
    · obtain ⟨b1, rfl, hB1, hB2, hc1, hz1⟩ := hfr.head (by omega)
      have gr := h.below hbr (Nat.le_refl _)
      have c1 := hc1 k hlt
      have z1 := hz1 k
      have nu := hfr.rd.num k hlt
      clear hc1 hz1 hc hf
      by_cases hkd : k < d
      · have HS := com_step (x := 1) GL.out hfr hlt (ext_low HL.out (by omega)) (by omega) (by omega)
        go_wp2
        go_roundw
        case rel => exact ⟨k + 1, by omega, by go_num, HS, hbr.setCell hB1 _⟩
        case measure => simp [intOf]; omega
      · obtain ⟨b2, off2, rfl, hb2, hc2⟩ := gr.cells (by omega)
        obtain ⟨j, rfl⟩ : ∃ j, k = d + j := ⟨k - d, by omega⟩
        have c2 := hc2 j (by omega)
        have n2 := gr.num j (by omega)
        have HS := com_step (x := nth zs j) GL.out hfr hlt (by have := ext_high (N := n + d) (j := j) HL.out; rwa [show n + d - n = d by omega] at this) n2.1 n2.2
        clear hc2
        go_wp2
        go_roundw
        case rel => exact ⟨d + j + 1, by omega, by go_num, HS, hbr.setCell hB1 _⟩
        case measure => simp [intOf]; omega
    · obtain rfl : k = n + d := by omega
      go_wp2
      go_ret
      refine ⟨co, c, rfl, ?_, hbr⟩
      have e : comK ys zs (n + d) = com zs ys := by
        have := HL.out
        have := GL.out
        rw [← GL.out]; exact comK_right (by omega)
      rw [← e]; exact hfr

/-- commonOf: the common shape of two, in memory of its own. -/
theorem common_any (ao bo : Option Addr) (n m cap cap' : Nat) (zs ys : List Int) (w : World) (h : Rd w ao n zs) (g : Rd w bo m ys) :
    Calls Try.prog 30 #[.slice ao n cap, .slice bo m cap'] w fun e w' => ∃ co k c, e = .returned (.slice co k c) ∧ Fr w' w.heap.size co k c (com zs ys) ∧ Below w.heap.size w w' := by
  by_cases hnm : m < n
  · exact (common_left ao bo n m cap cap' zs ys w h g hnm).mono fun e w' ⟨a, c, e1, e2, e3⟩ => ⟨a, _, c, e1, e2, e3⟩
  · exact (common_right ao bo n m cap cap' zs ys w h g (by omega)).mono fun e w' ⟨a, c, e1, e2, e3⟩ => ⟨a, _, c, e1, e2, e3⟩
end Go.Proofs.Ytdeglhifemmknaa
