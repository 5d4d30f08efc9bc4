
/- Contracts of package shape's At, and of the document's own At. -/

import Derived.Test.YtdeglhifemmknaaIndices

namespace Go.Proofs.Ytdeglhifemmknaa

open Go.RowKit Go.Deep

set_option linter.unusedVariables false

/-- The answers of At. -/
def atE (zs : List Int) (p : Int) : Int := if mayF zs ≠ 0 then mayF zs else if p < 0 ∨ pr zs ≤ p then 13 else 0
def atL (zs : List Int) (p : Int) : List Int := if atE zs p = 0 then digs zs p else []
theorem at_may {zs : List Int} {p : Int} (h : mayF zs ≠ 0) : atE zs p = mayF zs ∧ atL zs p = [] := by
  have e : atE zs p = mayF zs := if_pos h
  exact ⟨e, by unfold atL; rw [e, if_neg h]⟩
theorem at_out {zs : List Int} {p : Int} (h : mayF zs = 0) (hp : p < 0 ∨ pr zs ≤ p) : atE zs p = 13 ∧ atL zs p = [] := by
  have e : atE zs p = 13 := by unfold atE; rw [if_neg (by omega), if_pos hp]
  exact ⟨e, by unfold atL; rw [e, if_neg (by omega)]⟩
theorem at_in {zs : List Int} {p : Int} (h : mayF zs = 0) (h0 : 0 ≤ p) (hp : p < pr zs) : atE zs p = 0 ∧ atL zs p = digs zs p := by
  have e : atE zs p = 0 := by unfold atE; rw [if_neg (by omega), if_neg (by omega)]
  exact ⟨e, by unfold atL; rw [e, if_pos rfl]⟩

theorem pr_le {zs : List Int} (h : mayF zs = 0) : 0 ≤ pr zs ∧ pr zs ≤ 4096 := by
  have := pr_small h zs.length (Nat.le_refl _); rwa [List.take_length] at this

set_option maxHeartbeats 1000000 in
theorem at_any (ao : Option Addr) (n cap : Nat) (zs : List Int) (p : Int) (w : World) (h : Rd w ao n zs) (h1 : -9223372036854775808 ≤ p) (h2 : p ≤ 9223372036854775807) :
    Calls Try.prog 14 #[.slice ao n cap, .int .i64 p] w fun e w' => ∃ co k c, e = .returned (.tuple #[.slice co k c, .int .i64 (atE zs p)]) ∧ Fr w' w.heap.size co k c (atL zs p) ∧ Below w.heap.size w w' := by
  have hs := size_any ao n cap zs w h
  by_cases h0 : mayF zs = 0
  · have hb := pr_le h0
    rw [h0, sizeF_ok h0] at hs
    have H0 : Hid (mayF zs = 0) := h0
    clear h0
    by_cases hneg : p < 0
    · go_enter Try.func14, Try.ntmps14
      go_wp2_with (go_at_call 12; refine hs.mono ?_; rintro e w' ⟨rfl, rfl⟩)
      go_ret2
      have := at_out H0.out (.inl hneg)
      exact ⟨_, _, _, ret_lone rfl rfl rfl this.1.symm, by rw [this.2]; exact Fr.nil _ _, Below.refl _ _⟩
    · by_cases hbig : pr zs ≤ p
      · go_enter Try.func14, Try.ntmps14
        go_wp2_with (go_at_call 12; refine hs.mono ?_; rintro e w' ⟨rfl, rfl⟩)
        go_ret2
        have := at_out H0.out (.inr hbig)
        exact ⟨_, _, _, ret_lone rfl rfl rfl this.1.symm, by rw [this.2]; exact Fr.nil _ _, Below.refl _ _⟩
      · have hpos := allPos_of H0.out (p := p) (by omega) (by omega)
        have hi := fun W (hW : Rd W ao n zs) => indices_any ao n cap zs p W hW hpos (by omega) (by omega)
        go_enter Try.func14, Try.ntmps14
        go_wp2_with (first | (go_at_call 12; refine hs.mono ?_; rintro e w' ⟨rfl, rfl⟩) | (go_at_call 26; refine (hi _ (by assumption)).mono ?_; rintro e w2 ⟨co, c, rfl, hf, hbw⟩))
        go_ret2
        have := at_in H0.out (by omega : 0 ≤ p) (by omega)
        exact ⟨_, _, _, ret_lone rfl rfl rfl this.1.symm, by rw [this.2]; exact hf, hbw⟩
  · have h0' : (mayF zs != 0) = true := by simpa using h0
    have H0 : Hid (mayF zs ≠ 0) := h0
    clear h0
    go_enter Try.func14, Try.ntmps14
    go_wp2_with (go_at_call 12; refine hs.mono ?_; rintro e w' ⟨rfl, rfl⟩)
    go_ret2
    have := at_may (p := p) H0.out
    exact ⟨_, _, _, ret_lone rfl rfl rfl this.1.symm, by rw [this.2]; exact Fr.nil _ _, Below.refl _ _⟩

/-- A list of zeros, just made. -/
theorem made_fr (w : World) (n : Nat) (hr : n * 8 ≤ 140737488351232) : Fr (w.alloc (.cells (madeCells #[.int .i64 0] n) 3)) w.heap.size (some ⟨w.heap.size, 0, none⟩) n n (List.replicate n 0) := by
  have hown : (w.alloc (.cells (madeCells #[.int .i64 0] n) 3)).ownsRow w.heap.size 3 1 (.slice (some ⟨w.heap.size, 0, none⟩) n n) n ((List.replicate n 0).map (Value.int .i64)) := by
    refine ⟨by simp, .inr ⟨w.heap.size, n, madeCells #[.int .i64 0] n, rfl, by omega, World.alloc_heap_new _ _, Nat.le_refl _, by unfold maxLen; omega, by simp [madeCells], ?_⟩⟩
    rw [Nat.mul_one]
    apply List.ext_getElem
    · simp [madeCells]
    · intro i h1 h2; simp [madeCells, Nat.mod_one]
  obtain ⟨a, c, e, hf⟩ := Fr.mk' (zs := List.replicate n 0) (by simp) hr (fun k hk => by simp [nth, hk]) hown
  cases e
  exact hf

set_option maxHeartbeats 2000000 in
theorem refAt_any (ao : Option Addr) (n cap : Nat) (zs : List Int) (p : Int) (w : World) (h : Rd w ao n zs) (h1 : -9223372036854775808 ≤ p) (h2 : p ≤ 9223372036854775807) :
    Calls Try.prog 21 #[.slice ao n cap, .int .i64 p] w fun e w' => ∃ co k c, e = .returned (.tuple #[.slice co k c, .int .i64 (atE zs p)]) ∧ Fr w' w.heap.size co k c (atL zs p) ∧ Below w.heap.size w w' := by
  have hroom := h.room
  have HL : Hid (zs.length = n) := h.len
  have hs := refMay_any ao n cap zs w h
  by_cases h0 : mayF zs = 0
  · have hb := pr_le h0
    have hc := refCount_any ao n cap zs w h h0
    rw [h0] at hs
    have H0 : Hid (mayF zs = 0) := h0
    clear h0
    by_cases hneg : p < 0
    · go_enter Try.func21, Try.ntmps21
      go_wp2_with (first | (go_at_call 31; refine hs.mono ?_; rintro e w' ⟨rfl, rfl⟩) | (go_at_call 32; refine hc.mono ?_; rintro e w' ⟨rfl, rfl⟩))
      go_ret2
      have := at_out H0.out (.inl hneg)
      exact ⟨_, _, _, ret_lone rfl rfl rfl this.1.symm, by rw [this.2]; exact Fr.nil _ _, Below.refl _ _⟩
    · by_cases hbig : pr zs ≤ p
      · go_enter Try.func21, Try.ntmps21
        go_wp2_with (first | (go_at_call 31; refine hs.mono ?_; rintro e w' ⟨rfl, rfl⟩) | (go_at_call 32; refine hc.mono ?_; rintro e w' ⟨rfl, rfl⟩))
        go_ret2
        have := at_out H0.out (.inr hbig)
        exact ⟨_, _, _, ret_lone rfl rfl rfl this.1.symm, by rw [this.2]; exact Fr.nil _ _, Below.refl _ _⟩
      · have hpos := allPos_of H0.out (p := p) (by omega) (by omega)
        have hmk := run_make_row' (P := Try.prog) 28 3 (.int .i64 0) 8 Try.underlying28 info3 rfl .i64 .i64 n (by omega) (by omega)
        have hmf := made_fr w n hroom
        go_enter Try.func21, Try.ntmps21
        go_wp2_with (first | (go_at_call 31; refine hs.mono ?_; clear hs; rintro e w' ⟨rfl, hw⟩; rw [hw]; clear hw) | (go_at_call 32; refine hc.mono ?_; clear hc; rintro e w' ⟨rfl, hw⟩; rw [hw]; clear hw))
        go_loopw [1, 8] (fun v i wr => ∃ k : Nat, k ≤ n ∧ i = .int .i64 ((k : Int) - 1) ∧ v = .int .i64 (p / pr (zs.drop k)) ∧ Fr wr w.heap.size (some ⟨w.heap.size, 0, none⟩) n n (digK zs p k) ∧ Below w.heap.size w wr) (fun _ i _ => (intOf i + 1).toNat)
        case atStart =>
          have hl := HL.out
          exact ⟨n, Nat.le_refl _, rfl, by rw [List.drop_eq_nil_of_le (by omega)]; simp [pr], by rw [show digK zs p n = List.replicate n 0 by rw [← hl]; exact digK_zero]; exact hmf, (Below.refl _ _).alloc (Nat.le_refl _) _⟩
        case round =>
          obtain ⟨k, hk, rfl, rfl, hfr, hbr⟩ := hrel
          clear hmk hmf
          cases k with
          | zero =>
            go_wp2
            go_ret2
            have := at_in H0.out (by omega : 0 ≤ p) (by omega)
            exact ⟨_, _, _, ret_lone rfl rfl rfl this.1.symm, by rw [this.2]; exact hfr, hbr⟩
          | succ k =>
            have hl := HL.out
            have HL2 : Hid (zs.length = n) := hl
            have hnum := h.num k (by omega)
            have hpk := hpos k (by omega)
            have hnz : ¬ nth zs k = 0 := by omega
            have hqb := quo_bd (zs := zs) (p := p) (m := k + 1) (by omega) hpos (by omega)
            have hdb := dg_bd (zs := zs) (p := p) (m := k) (by omega) hpos
            have hset := hfr.set k (by omega) (dg zs p k) (by omega) (by omega)
            rw [← digK_step (by omega)] at hset
            unfold dg at hdb hset
            have HQ : Hid (p / pr (zs.drop k) = p / pr (zs.drop (k + 1)) / nth zs k) := quo_step (by omega) hpos
            obtain ⟨b, off, rfl, hb2, hcs⟩ := (h.below hbr (Nat.le_refl _)).cells (by omega)
            have c1 := hcs k (by omega)
            obtain ⟨g, e, _, _, hc3, hz3⟩ := hfr.head (by omega)
            cases e
            have c3 := hc3 k (by omega)
            have z3 := hz3 k
            have hbn : ¬ b = w.heap.size := by
              intro e; subst e
              obtain ⟨_, _, e, hlt, _⟩ := h.cells (by omega)
              cases e; omega
            have c1' : ∀ v, (wr.setCell ⟨w.heap.size, k, none⟩ v).cell? ⟨b, off + k, none⟩ = some (.int .i64 (nth zs k)) := fun v => (hfr.own.stored k v).2.cell c1 (fun e => hbn (by cases e; rfl))
            clear hcs hc3 hz3 hl
            go_wp2
            go_roundw
            case rel => exact ⟨k, by omega, by go_num, by rw [HQ.out], hset, hbr.setCell (p := ⟨w.heap.size, k, none⟩) (Nat.le_refl _) _⟩
            case measure => simp [intOf]
  · have h0' : (mayF zs != 0) = true := by simpa using h0
    have H0 : Hid (mayF zs ≠ 0) := h0
    clear h0
    go_enter Try.func21, Try.ntmps21
    go_wp2_with (go_at_call 31; refine hs.mono ?_; rintro e w' ⟨rfl, rfl⟩)
    go_ret2
    have := at_may (p := p) H0.out
    exact ⟨_, _, _, ret_lone rfl rfl rfl this.1.symm, by rw [this.2]; exact Fr.nil _ _, Below.refl _ _⟩
end Go.Proofs.Ytdeglhifemmknaa
