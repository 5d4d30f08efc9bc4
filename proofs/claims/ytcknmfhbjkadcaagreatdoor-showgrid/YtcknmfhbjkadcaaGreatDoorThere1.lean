
/- Contracts for the law ShapeThere: what rises; ranging over All. -/

import Derived.Test.YtcknmfhbjkadcaaGreatDoorWalks

import Derived.Test.YtcknmfhbjkadcaaGreatDoorThereMath

namespace Go.Proofs.YtcknmfhbjkadcaaGreatDoor

open Go.RowKit Go.Shelf

attribute [local go_sem] Oper.semAt_some

set_option linter.unusedVariables false

set_option maxRecDepth 100000 in
set_option maxHeartbeats 2000000 in
/-- What All handed out, ranged over: every place, one behind the other. -/
theorem all1_range (q l B1 B2 : Nat) (hq : 1 ≤ q) (co : Option Addr) (n c : Nat) (zs : List Int) (h0 : mayF zs = 0) (J : Nat → World → Prop)
    (hJ : ∀ k W, J k W → Sq W B1 B2 co n c zs) (hJb : ∀ k W W', J k W → Below W.heap.size W W' → J k W')
    (hY : ∀ (k : Nat) W0 W ao c', (k : Int) < pr zs → J k W → W0.heap.size ≤ W.heap.size → J k W0 → Fr W W0.heap.size ao n c' (digs zs k) → YieldAt Fence.wide (q - 1) Tryz.prog l #[.int .i64 (k : Nat), .slice ao n c'] W fun e W' => e = .returned (.bool true) ∧ J (k + 1) W')
    (W : World) (hs : J 0 W) :
    CallsIn Fence.wide q Tryz.prog 53 #[.func (.yield l) #[] #[], .pointer (some ⟨B1, 0, none⟩), .pointer (some ⟨B2, 0, none⟩)] W fun e W' => (∃ v, e = .returned v) ∧ J (pr zs).toNat W' := by
  have hpb := pr_le h0
  have c1 := (hJ _ _ hs).size.cell
  rw [sizeF_ok h0] at c1
  refine callsIn_of_wp Tryz.func53 rfl trivial ?_ rfl
  simp only [Tryz.ntmps53, List.size_toArray, List.length_cons, List.length_nil, Nat.reduceAdd, Nat.reduceSub, Array.replicate_succ, Array.replicate_zero, List.push_toArray, List.append_toArray, List.nil_append, List.cons_append]
  gi_wp2
  gi_loopw [6] (fun i wr => ∃ k : Nat, (k : Int) ≤ pr zs ∧ i = .int .i64 (k : Nat) ∧ J k wr) (fun i _ => (pr zs - intOf i).toNat)
  case atStart => exact ⟨0, by simpa using hpb.1, rfl, hs⟩
  case round =>
    obtain ⟨k, hk, rfl, hJk⟩ := hrel
    clear c1 hs
    have q1 := hJ _ _ hJk
    by_cases hlt : (k : Int) < pr zs
    · have hpos := allPos_of h0 (p := (k : Nat)) (by omega) hlt
      have cl := q1.list.cell
      have hi := indices_any co n c zs (k : Nat) wr q1.rd hpos (by omega) (by omega)
      clear q1
      gi_wp2_with (refine ⟨trivial, ?_⟩; gi_at_call 22; refine (callsIn_wide.2 hi).mono ?_; rintro e w2 ⟨ao, c2, rfl, hf, hb2⟩; have hJ2 := hJb _ _ _ hJk hb2; obtain ⟨fn, tmps, assign, body, hy, hR⟩ := hY k wr w2 ao c2 hlt hJ2 hb2.size hJk hf)
      refine hR.mono ?_
      rintro e W3 ⟨rfl, hJ3⟩
      gi_wp2
      go_roundw
      case rel => exact ⟨k + 1, by omega, by go_num, hJ3⟩
      case measure => simp [intOf]; omega
    · gi_wp2
      go_end0
      exact ⟨⟨_, rfl⟩, by rw [show (pr zs).toNat = k by omega]; exact hJk⟩

theorem cell_loop {W : World} {l : Nat} {r : Loop} (h : W.heap[l]? = some (.loop r)) (off : Nat) : W.cell? ⟨l, off, none⟩ = none := by
  simp [World.cell?, h]
theorem Rd.keptL {w w' : World} {l : Nat} {r : Loop} {ao : Option Addr} {n : Nat} {zs : List Int} (h : Rd w ao n zs) (hg : w.grownBy w' (some l)) (hl : w.heap[l]? = some (.loop r)) : Rd w' ao n zs := by
  refine ⟨h.len, h.room, h.num, fun h0 => ?_⟩
  obtain ⟨b, off, e, hb, hc⟩ := h.cells h0
  refine ⟨b, off, e, Nat.lt_of_lt_of_le hb hg.size, fun k hk => hg.cell (hc k hk) (fun e => ?_)⟩
  cases e
  have := hc 0 h0
  rw [cell_loop hl] at this
  cases this
theorem Fr.keptL {w w' : World} {B l : Nat} {r : Loop} {ao : Option Addr} {n cap : Nat} {zs : List Int} (h : Fr w B ao n cap zs) (hg : w.grownBy w' (some l)) (hl : w.heap[l]? = some (.loop r)) : Fr w' B ao n cap zs := by
  refine h.kept hg ?_
  rcases h.own.2 with ⟨e, _⟩ | ⟨g, c, cur, e, _, hgg, _⟩
  · cases e; intro b off e; cases e
  · cases e
    intro b off e e2
    cases e; cases e2
    rw [hl] at hgg
    cases hgg
theorem Sq.kept {w w' : World} {row : Option Nat} {B1 B2 : Nat} {co : Option Addr} {n c : Nat} {zs : List Int} (h : Sq w B1 B2 co n c zs) (hg : w.grownBy w' row) (h1 : some B1 ≠ row) (h2 : some B2 ≠ row) (h3 : ∀ b off, co = some ⟨b, off, none⟩ → some b ≠ row) : Sq w' B1 B2 co n c zs :=
  ⟨h.size.kept hg h1, h.list.kept hg h2, h.rd.kept hg h3⟩
end Go.Proofs.YtcknmfhbjkadcaaGreatDoor
