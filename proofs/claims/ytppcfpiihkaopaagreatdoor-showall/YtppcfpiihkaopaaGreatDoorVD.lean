
/- Contracts: numbers with a blank between each two. -/

import Derived.Test.YtppcfpiihkaopaaGreatDoorVX

namespace Go.Proofs.YtppcfpiihkaopaaGreatDoor

open Go.RowKit

set_option linter.unusedVariables false

/-- A builder in block b, of the call's own, that holds the bytes l. -/
def Bd (W : World) (b : Nat) (l : List UInt8) : Prop := Lib.IsBuilderF 73 5 b b (Lib.byteCells l) W
theorem bd_new (w : World) : Bd (w.alloc (.cells #[.pointer none, .slice none 0 0] 73)) w.heap.size [] := Lib.IsBuilderF.of (Lib.fresh_isBuilder 73 5 w)
theorem Bd.below {W W' : World} {b : Nat} {l : List UInt8} (h : Bd W b l) (k : Below W.heap.size W W') : Bd W' b l := by
  have key : ∀ p, Lib.BuilderAtF 73 5 b b p (Lib.byteCells l) W → Lib.BuilderAtF 73 5 b b p (Lib.byteCells l) W' := fun p h => by
    have hlt := h.lt
    obtain ⟨hB, v, hb, hown, hne⟩ := h
    exact ⟨hB, v, (k.block b hlt).trans hb, hown.kept (row := none) ⟨k.os, k.tape, k.output, k.size, fun j hj _ => k.block j hj⟩ (by cases hv : v.ownBlock <;> simp), hne⟩
  exact h.elim (fun x => .inl (key _ x)) (fun x => .inr (key _ x))
theorem Bd.lt {W : World} {b : Nat} {l : List UInt8} (h : Bd W b l) : b < W.heap.size := h.elim (fun x => x.lt) (fun x => x.lt)
theorem bc_len (l : List UInt8) : (Lib.byteCells l).length = l.length := by simp [Lib.byteCells]
theorem bd_byte (W : World) (b : Nat) (l : List UInt8) (c : UInt8) (h : Bd W b l) (hl : l.length + 1 ≤ 140737488355328) :
    Calls Tryz.prog 37 #[.pointer (some ⟨b, 0, none⟩), .int .u8 (c.toNat : Int)] W fun e W' => e = .returned .nilIface ∧ Bd W' b (l ++ [c]) ∧ Below b W W' ∧ Lib.OthersKept 5 (some b) W W' := by
  refine (Tryz.Builder_WriteByte_k b b (Lib.byteCells l) (c.toNat : Int) W h (by rw [bc_len]; exact hl) (Nat.le_of_lt h.lt)).mono ?_
  rintro e W' ⟨rfl, h1, h2, h3⟩
  refine ⟨rfl, .inr ?_, h2, h3⟩
  have : Lib.byteCells (l ++ [c]) = Lib.byteCells l ++ [.int .u8 (c.toNat : Int)] := by simp [Lib.byteCells]
  rw [this]; exact h1
theorem bd_str (W : World) (b : Nat) (l s : List UInt8) (h : Bd W b l) (hl : l.length + s.length ≤ 140737488355328) :
    Calls Tryz.prog 38 #[.pointer (some ⟨b, 0, none⟩), .string ⟨s.toArray⟩] W fun e W' => e = .returned (.tuple #[.int .i64 (s.length : Int), .nilIface]) ∧ Bd W' b (l ++ s) ∧ Below b W W' ∧ Lib.OthersKept 5 (some b) W W' := by
  refine (Tryz.Builder_WriteString_k b b (Lib.byteCells l) ⟨s.toArray⟩ W h (by rw [bc_len, bs_size]; exact hl) (Nat.le_of_lt h.lt)).mono ?_
  rintro e W' ⟨rfl, h1, h2, h3⟩
  refine ⟨by rw [bs_size], .inr ?_, h2, h3⟩
  have : Lib.byteCells (l ++ s) = Lib.byteCells l ++ Lib.strCells ⟨s.toArray⟩ := by simp [Lib.byteCells, Lib.strCells]
  rw [this]; exact h1
theorem bd_get (W : World) (b : Nat) (l : List UInt8) (h : Bd W b l) :
    Calls Tryz.prog 40 #[.pointer (some ⟨b, 0, none⟩)] W fun e W' => e = .returned (.string ⟨l.toArray⟩) ∧ Bd W' b l ∧ Below b W W' ∧ Lib.OthersKept 5 (some b) W W' :=
  Tryz.Builder_String_any_k b b l W h (Nat.le_of_lt h.lt)
theorem bd_blank (W : World) (b : Nat) (l : List UInt8) (h : Bd W b l) (hl : l.length + 1 ≤ 140737488355328) :
    Calls Tryz.prog 37 #[.pointer (some ⟨b, 0, none⟩), .int .u8 32] W fun e W' => e = .returned .nilIface ∧ Bd W' b (l ++ [32]) ∧ Below b W W' ∧ Lib.OthersKept 5 (some b) W W' := bd_byte W b l 32 h hl
theorem in64_of {w : World} {ao : Option Addr} {n : Nat} {zs : List Int} (h : Rd w ao n zs) : In64 zs := fun x hx => by
  obtain ⟨k, hk, rfl⟩ := List.getElem_of_mem hx
  have := h.num k (by rw [← h.len]; exact hk)
  unfold nth at this
  rwa [List.getD_eq_getElem?_getD, List.getElem?_eq_getElem hk] at this
theorem inL_len : ∀ (zs : List Int), In64 zs → (inL zs).length ≤ 22 * zs.length := by
  have h : ∀ zs : List Int, In64 zs → (sp zs).length ≤ 22 * zs.length := by
    intro zs
    induction zs with
    | nil => intro _; simp [sp]
    | cons n r ih =>
      intro h
      have h1 := wr_len n (h n (by simp)).1 (h n (by simp)).2
      have h2 := ih fun x hx => h x (by simp [hx])
      rw [sp_cons]; simp only [List.length_cons, List.length_append]; omega
  intro zs hz
  have := h zs hz
  unfold inL; rw [List.length_drop]; omega
theorem inL_take {zs : List Int} {k : Nat} (h : k < zs.length) : inL (zs.take (k + 1)) = if k = 0 then wrt (nth zs k) else inL (zs.take k) ++ 32 :: wrt (nth zs k) := by
  have e : zs.take (k + 1) = zs.take k ++ [nth zs k] := by
    unfold nth
    rw [List.take_add_one, List.getElem?_eq_getElem h, List.getD_eq_getElem?_getD, List.getElem?_eq_getElem h]; rfl
  rw [e, inL_snoc]
  by_cases h0 : k = 0
  · subst h0; simp
  · rw [if_neg h0, if_neg]
    intro e2
    have := congrArg List.length e2
    simp at this; rw [this.resolve_left h0] at h; simp at h

set_option maxHeartbeats 2000000 in
theorem inLine64_any (ao : Option Addr) (n cap : Nat) (zs : List Int) (w : World) (h : Rd w ao n zs) (hn : n ≤ 4096) (T : Tb w) :
    Calls Tryz.prog 19 #[.slice ao n cap] w fun e w' => e = .returned (.string ⟨(inL zs).toArray⟩) ∧ Below w.heap.size w w' := by
  have H64 := in64_of h
  have HL : Hid (zs.length = n) := h.len
  have b0 := bd_new w
  have k0 := box_below w (.cells #[.pointer none, .slice none 0 0] 73)
  have LB : ∀ k, k ≤ n → (inL (zs.take k)).length ≤ 90112 := fun k hk => by
    have := inL_len (zs.take k) fun x hx => H64 x (List.mem_of_mem_take hx)
    rw [List.length_take] at this; omega
  go_enter Tryz.func19, Tryz.ntmps19
  go_wp2
  go_loopw [8] (fun i wr => ∃ k : Nat, k ≤ n ∧ i = .int .i64 (k : Nat) ∧ Bd wr w.heap.size (inL (zs.take k)) ∧ Below w.heap.size w wr) (fun i _ => n - (intOf i).toNat)
  case atStart => exact ⟨0, Nat.zero_le _, rfl, b0, k0⟩
  case round =>
    clear b0 k0
    obtain ⟨k, hk, rfl, hB, hb⟩ := hrel
    by_cases hlt : k < n
    · have hw := h.below hb (Nat.le_refl _)
      obtain ⟨b, off, rfl, hbb, hc⟩ := hw.cells (by omega)
      have c1 := hc k hlt
      have LBk := LB k hk
      have hz := h.num k hlt
      have HT : Hid (inL (zs.take (k + 1)) = if k = 0 then wrt (nth zs k) else inL (zs.take k) ++ 32 :: wrt (nth zs k)) := inL_take (by have := HL.out; omega)
      have hwl := wr_len (nth zs k) hz.1 hz.2
      have TW := T.below hb
      clear hc hw h
      by_cases h0 : k = 0
      · subst h0
        rw [Nat.add_zero] at c1
        have e0 : inL (zs.take 0) = [] := rfl
        rw [e0] at hB
        have HT' : Hid (inL (zs.take (0 + 1)) = wrt (nth zs 0)) := by have := HT.out; rw [if_pos rfl] at this; exact this
        have cW := written_any (nth zs 0) wr hz.1 hz.2 TW
        clear HT e0
        go_wp2_with (first
          | (go_at_call 39; (with_reducible refine cW.mono ?_); rintro e w1 ⟨rfl, j1⟩; have B1 := hB.below j1; have K1 := hb.trans (j1.mono hb.size); have cS := bd_str w1 w.heap.size [] (wrt (nth zs 0)) B1 (by simp; omega))
          | (go_at_call 38; (with_reducible refine cS.mono ?_); rintro e w2 ⟨rfl, B2, j2, o2⟩; have K2 := K1.trans j2))
        go_roundw
        case rel => exact ⟨0 + 1, by omega, by go_num, (by rw [HT'.out]; exact B2), K2⟩
        case measure => simp [intOf]; omega
      · have t0 : (0 : Int) < (k : Int) := by omega
        have t0' : 0 < k := by omega
        have HT' : Hid (inL (zs.take (k + 1)) = inL (zs.take k) ++ [32] ++ wrt (nth zs k)) := by have := HT.out; rw [if_neg h0] at this; show _ = _; rw [this]; simp
        have cY := bd_blank wr w.heap.size (inL (zs.take k)) hB (by omega)
        clear HT h0
        generalize inL (zs.take k) = acc at *
        go_wp2_with (first
          | (go_at_call 37; (with_reducible refine cY.mono ?_); rintro e w0 ⟨rfl, B0, j0, o0⟩; have K0 := hb.trans j0; have cW := written_any (nth zs k) w0 hz.1 hz.2 (T.below K0))
          | (go_at_call 39; (with_reducible refine cW.mono ?_); rintro e w1 ⟨rfl, j1⟩; have B1 := B0.below j1; have K1 := K0.trans (j1.mono K0.size); have cS := bd_str w1 w.heap.size (acc ++ [32]) (wrt (nth zs k)) B1 (by simp; omega))
          | (go_at_call 38; (with_reducible refine cS.mono ?_); rintro e w2 ⟨rfl, B2, j2, o2⟩; have K2 := K1.trans j2))
        go_roundw
        case rel => exact ⟨k + 1, by omega, by go_num, (by rw [HT'.out]; exact B2), K2⟩
        case measure => simp [intOf]; omega
    · obtain rfl : k = n := by omega
      have cG := bd_get wr w.heap.size _ hB
      rw [List.take_of_length_le (by have := HL.out; omega)] at cG
      clear LB h hB
      go_wp2_with (go_at_call 40; (with_reducible refine cG.mono ?_); rintro e w2 ⟨rfl, B2, j2, o2⟩; have K2 := hb.trans j2)
      go_ret
      exact ⟨rfl, K2⟩

set_option maxHeartbeats 2000000 in
theorem inLineI_any (ao : Option Addr) (n cap : Nat) (zs : List Int) (w : World) (h : Rd w ao n zs) (hn : n ≤ 4096) (T : Tb w) :
    Calls Tryz.prog 22 #[.slice ao n cap] w fun e w' => e = .returned (.string ⟨(inL zs).toArray⟩) ∧ Below w.heap.size w w' := by
  have H64 := in64_of h
  have HL : Hid (zs.length = n) := h.len
  have b0 := bd_new w
  have k0 := box_below w (.cells #[.pointer none, .slice none 0 0] 73)
  have LB : ∀ k, k ≤ n → (inL (zs.take k)).length ≤ 90112 := fun k hk => by
    have := inL_len (zs.take k) fun x hx => H64 x (List.mem_of_mem_take hx)
    rw [List.length_take] at this; omega
  go_enter Tryz.func22, Tryz.ntmps22
  go_wp2
  go_loopw [8] (fun i wr => ∃ k : Nat, k ≤ n ∧ i = .int .i64 (k : Nat) ∧ Bd wr w.heap.size (inL (zs.take k)) ∧ Below w.heap.size w wr) (fun i _ => n - (intOf i).toNat)
  case atStart => exact ⟨0, Nat.zero_le _, rfl, b0, k0⟩
  case round =>
    clear b0 k0
    obtain ⟨k, hk, rfl, hB, hb⟩ := hrel
    by_cases hlt : k < n
    · have hw := h.below hb (Nat.le_refl _)
      obtain ⟨b, off, rfl, hbb, hc⟩ := hw.cells (by omega)
      have c1 := hc k hlt
      have LBk := LB k hk
      have hz := h.num k hlt
      have HT : Hid (inL (zs.take (k + 1)) = if k = 0 then wrt (nth zs k) else inL (zs.take k) ++ 32 :: wrt (nth zs k)) := inL_take (by have := HL.out; omega)
      have hwl := wr_len (nth zs k) hz.1 hz.2
      have TW := T.below hb
      clear hc hw h
      by_cases h0 : k = 0
      · subst h0
        rw [Nat.add_zero] at c1
        have e0 : inL (zs.take 0) = [] := rfl
        rw [e0] at hB
        have HT' : Hid (inL (zs.take (0 + 1)) = wrt (nth zs 0)) := by have := HT.out; rw [if_pos rfl] at this; exact this
        have cW := written_any (nth zs 0) wr hz.1 hz.2 TW
        clear HT e0
        go_wp2_with (first
          | (go_at_call 39; (with_reducible refine cW.mono ?_); rintro e w1 ⟨rfl, j1⟩; have B1 := hB.below j1; have K1 := hb.trans (j1.mono hb.size); have cS := bd_str w1 w.heap.size [] (wrt (nth zs 0)) B1 (by simp; omega))
          | (go_at_call 38; (with_reducible refine cS.mono ?_); rintro e w2 ⟨rfl, B2, j2, o2⟩; have K2 := K1.trans j2))
        go_roundw
        case rel => exact ⟨0 + 1, by omega, by go_num, (by rw [HT'.out]; exact B2), K2⟩
        case measure => simp [intOf]; omega
      · have t0 : (0 : Int) < (k : Int) := by omega
        have t0' : 0 < k := by omega
        have HT' : Hid (inL (zs.take (k + 1)) = inL (zs.take k) ++ [32] ++ wrt (nth zs k)) := by have := HT.out; rw [if_neg h0] at this; show _ = _; rw [this]; simp
        have cY := bd_blank wr w.heap.size (inL (zs.take k)) hB (by omega)
        clear HT h0
        generalize inL (zs.take k) = acc at *
        go_wp2_with (first
          | (go_at_call 37; (with_reducible refine cY.mono ?_); rintro e w0 ⟨rfl, B0, j0, o0⟩; have K0 := hb.trans j0; have cW := written_any (nth zs k) w0 hz.1 hz.2 (T.below K0))
          | (go_at_call 39; (with_reducible refine cW.mono ?_); rintro e w1 ⟨rfl, j1⟩; have B1 := B0.below j1; have K1 := K0.trans (j1.mono K0.size); have cS := bd_str w1 w.heap.size (acc ++ [32]) (wrt (nth zs k)) B1 (by simp; omega))
          | (go_at_call 38; (with_reducible refine cS.mono ?_); rintro e w2 ⟨rfl, B2, j2, o2⟩; have K2 := K1.trans j2))
        go_roundw
        case rel => exact ⟨k + 1, by omega, by go_num, (by rw [HT'.out]; exact B2), K2⟩
        case measure => simp [intOf]; omega
    · obtain rfl : k = n := by omega
      have cG := bd_get wr w.heap.size _ hB
      rw [List.take_of_length_le (by have := HL.out; omega)] at cG
      clear LB h hB
      go_wp2_with (go_at_call 40; (with_reducible refine cG.mono ?_); rintro e w2 ⟨rfl, B2, j2, o2⟩; have K2 := hb.trans j2)
      go_ret
      exact ⟨rfl, K2⟩
end Go.Proofs.YtppcfpiihkaopaaGreatDoor
