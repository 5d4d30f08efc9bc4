
/- Contracts for the law ShapeThere: what rises; ranging over All. -/

import Derived.Test.YtppcfpiihkaopaaGreatDoorIndices

import Derived.Test.YtppcfpiihkaopaaGreatDoorA10

namespace Go.Proofs.YtppcfpiihkaopaaGreatDoor

open Go.RowKit Go.Deep

set_option linter.unusedVariables false

theorem pr_le {zs : List Int} (h : mayF zs = 0) : 0 ≤ pr zs ∧ pr zs ≤ 4096 := by
  have := pr_small h zs.length (Nat.le_refl _); rwa [List.take_length] at this

end Go.Proofs.YtppcfpiihkaopaaGreatDoor

namespace Go.Proofs.YtppcfpiihkaopaaGreatDoor

open Go.RowKit

set_option linter.unusedVariables false

/-- What All hands out: how many places there are, and a list of its own. -/
structure Sq (w : World) (B1 B2 : Nat) (co : Option Addr) (n c : Nat) (zs : List Int) : Prop where
  size : Boxed w B1 3 (.int .i64 (sizeF zs))
  list : Boxed w B2 25 (.slice co n c)
  rd : Rd w co n zs

theorem Sq.below {w w' : World} {B1 B2 B : Nat} {co : Option Addr} {n c : Nat} {zs : List Int} (h : Sq w B1 B2 co n c zs) (hb : Below B w w') (hB : w.heap.size ≤ B) : Sq w' B1 B2 co n c zs :=
  ⟨(hb.block B1 (Nat.lt_of_lt_of_le h.size.lt hB)).trans h.size, (hb.block B2 (Nat.lt_of_lt_of_le h.list.lt hB)).trans h.list, h.rd.below hb hB⟩

theorem all_any (ao : Option Addr) (n cap : Nat) (zs : List Int) (w : World) (h : Rd w ao n zs) :
    Calls Tryz.prog 42 #[.slice ao n cap] w fun e w' => ∃ B1 B2 co c, e = .returned (.func (.func 63) #[] #[.pointer (some ⟨B1, 0, none⟩), .pointer (some ⟨B2, 0, none⟩)]) ∧
      Sq w' B1 B2 co n c zs ∧ Fr w' w.heap.size co n c zs ∧ w.heap.size ≤ B1 ∧ w.heap.size ≤ B2 ∧ Below w.heap.size w w' := by
  have hs := size_any ao n cap zs w h
  have h1 := h.alloc (.cells #[.int .i64 (sizeF zs)] 3)
  have hc := copied_any ao n cap zs _ h1
  have b1 := Boxed.new w 3 (.int .i64 (sizeF zs))
  have hbd := sizeF_bd zs
  go_enter Tryz.func42, Tryz.ntmps42
  go_wp2_with (first | (go_at_call 36; refine hs.mono ?_; rintro e w' ⟨rfl, hw⟩; rw [hw]; clear hw w') | (go_at_call 62; refine hc.mono ?_; rintro e w2 ⟨co, c, rfl, hf, hb⟩))
  go_ret
  have b1' : Boxed w2 w.heap.size 3 (.int .i64 (sizeF zs)) := (hb.block _ (by simp)).trans b1
  have hsz : w.heap.size + 1 ≤ w2.heap.size := by have := hb.size; simpa using this
  refine ⟨w.heap.size, w2.heap.size, co, c, rfl, ⟨b1'.alloc _, Boxed.new w2 25 _, hf.rd.alloc _⟩, (hf.kept (World.grownBy_alloc _ _ none) (by simp)).mono (by simp), Nat.le_refl _, by omega, ?_⟩
  exact (((Below.refl _ w).alloc (Nat.le_refl _) _).trans (hb.mono (by simp))).alloc (by omega) _

end Go.Proofs.YtppcfpiihkaopaaGreatDoor

namespace Go.Proofs.YtppcfpiihkaopaaGreatDoor

open Go.RowKit

set_option linter.unusedVariables false

def lits (zs : List Int) : Bool := decide (zs.length ≤ 100) && zs.all fun z => decide (-10000 ≤ z ∧ z ≤ 10000)

theorem rdA (W : World) (zs : List Int) (h : lits zs = true) : Rd (W.alloc (.cells (zs.map (Value.int .i64)).toArray 3)) (some ⟨W.heap.size, 0, none⟩) zs.length zs := by
  simp only [lits, Bool.and_eq_true, decide_eq_true_eq, List.all_eq_true] at h
  refine ⟨rfl, by omega, fun k hk => ?_, fun _ => ⟨W.heap.size, 0, rfl, by simp, fun k hk => ?_⟩⟩
  · have := h.2 _ (nth_mem hk); omega
  · have hb := World.alloc_heap_new W (.cells (zs.map (Value.int .i64)).toArray 3)
    have := cell_of_row (W.alloc (.cells (zs.map (Value.int .i64)).toArray 3)) W.heap.size (0 + k) _ 3 (0, 0) hb
    rw [this, Nat.zero_add]
    simpa using nth_map hk
theorem slA (a : Addr) (n : Nat) (h : n ≤ 100) : Sl (some a) n n := ⟨fun e => (by cases e), Nat.le_refl _, by omega⟩

end Go.Proofs.YtppcfpiihkaopaaGreatDoor

namespace Go.Proofs.YtppcfpiihkaopaaGreatDoor

set_option linter.unusedVariables false

theorem plc_digs {zs : List Int} {p : Int} (hp : allPos zs) (h0 : 0 ≤ p) (hlt : p < pr zs) : ∀ m, m ≤ zs.length → plc zs (digs zs p) m = p / pr (zs.drop m)
  | 0, _ => by simp only [plc, List.drop_zero]; rw [Int.ediv_eq_zero_of_lt h0 hlt]
  | m + 1, hm => by
    simp only [plc]
    rw [plc_digs hp h0 hlt m (by omega), nth_digs (by omega), quo_step (m := m) (by omega) hp]
    unfold dg
    have := Int.mul_ediv_add_emod (p / pr (zs.drop (m + 1))) (nth zs m)
    rw [Int.mul_comm] at this
    exact this
theorem idx_digs {zs : List Int} {p : Int} (hp : allPos zs) : idx zs (digs zs p) zs.length := fun j hj => by
  rw [nth_digs hj]; exact dg_bd hj hp

theorem plc_quo {zs ys : List Int} (hp : allPos zs) (hi : idx zs ys zs.length) : ∀ d m, m + d = zs.length → plc zs ys zs.length / pr (zs.drop m) = plc zs ys m
  | 0, m, e => by
    obtain rfl : m = zs.length := by omega
    rw [List.drop_length]; simp [pr]
  | d + 1, m, e => by
    rw [quo_step (m := m) (by omega) hp, plc_quo hp hi d (m + 1) (by omega)]
    simp only [plc]
    have h1 := hi m (by omega)
    have h2 := hp m (by omega)
    rw [Int.add_comm, Int.add_mul_ediv_right _ _ (by omega), Int.ediv_eq_zero_of_lt h1.1 h1.2, Int.zero_add]

/-- Indices that lead to a place are its own. -/
theorem digs_place {zs ys : List Int} (hp : allPos zs) (hl : ys.length = zs.length) (hi : idx zs ys zs.length) : digs zs (plc zs ys zs.length) = ys := by
  refine ext_nth (by rw [digs_len, hl]) fun k hk => ?_
  rw [digs_len] at hk
  rw [nth_digs hk]
  unfold dg
  rw [plc_quo hp hi (zs.length - (k + 1)) (k + 1) (by omega)]
  simp only [plc]
  have h1 := hi k hk
  rw [Int.add_comm, Int.add_mul_emod_self_right, Int.emod_eq_of_lt h1.1 h1.2]

/-- A place that was told has its indices. -/
theorem back {zs ys : List Int} (h : mayF zs = 0) (hE : placeE zs ys = 0) : 0 ≤ placeN zs ys ∧ placeN zs ys < pr zs ∧ digs zs (placeN zs ys) = ys := by
  by_cases hl : ys.length = zs.length
  · by_cases hi : idx zs ys zs.length
    · have e := (place_in h hl hi).2
      have bd := plc_bd (zs := zs) (ys := ys) zs.length (Nat.le_refl _) hi
      rw [List.take_length] at bd
      rw [e]
      exact ⟨bd.1, by omega, digs_place (allPos_of h bd.1 (by omega)) hl hi⟩
    · have : placeE zs ys = 13 := by unfold placeE; rw [if_neg (by omega), if_neg (by omega), if_neg hi]
      omega
  · have := (place_rank h hl).1; omega
end Go.Proofs.YtppcfpiihkaopaaGreatDoor

namespace Go.Proofs.YtppcfpiihkaopaaGreatDoor

open Go.RowKit Go.Shelf

attribute [local go_sem] Oper.semAt_some

set_option linter.unusedVariables false

set_option maxRecDepth 100000 in
set_option maxHeartbeats 2000000 in
/-- What All handed out, ranged over: every place, one behind the other. -/
theorem all1_range (q l B1 B2 : Nat) (hq : 1 ≤ q) (co : Option Addr) (n c : Nat) (zs : List Int) (h0 : mayF zs = 0) (J : Nat → World → Prop)
    (hJ : ∀ k W, J k W → Sq W B1 B2 co n c zs) (hJb : ∀ k W W', J k W → Below W.heap.size W W' → J k W')
    (hY : ∀ (k : Nat) W0 W ao c', (k : Int) < pr zs → J k W → W0.heap.size ≤ W.heap.size → J k W0 → Fr W W0.heap.size ao n c' (digs zs k) → YieldAt Fence.wide (q - 1) Tryz.prog l #[.int .i64 (k : Nat), .slice ao n c'] W fun e W' => e = .returned (.bool true) ∧ J (k + 1) W')
    (W : World) (hs : J 0 W) :
    CallsIn Fence.wide q Tryz.prog 63 #[.func (.yield l) #[] #[], .pointer (some ⟨B1, 0, none⟩), .pointer (some ⟨B2, 0, none⟩)] W fun e W' => (∃ v, e = .returned v) ∧ J (pr zs).toNat W' := by
  have hpb := pr_le h0
  have c1 := (hJ _ _ hs).size.cell
  rw [sizeF_ok h0] at c1
  refine callsIn_of_wp Tryz.func63 rfl trivial ?_ rfl
  simp only [Tryz.ntmps63, List.size_toArray, List.length_cons, List.length_nil, Nat.reduceAdd, Nat.reduceSub, Array.replicate_succ, Array.replicate_zero, List.push_toArray, List.append_toArray, List.nil_append, List.cons_append]
  gi_wp2
  gi_loopw [6] (fun i wr => ∃ k : Nat, (k : Int) ≤ pr zs ∧ i = .int .i64 (k : Nat) ∧ J k wr) (fun i _ => (pr zs - intOf i).toNat)
  case atStart => exact ⟨0, by simpa using hpb.1, rfl, hs⟩
  case round =>
    obtain ⟨k, hk, rfl, hJk⟩ := hrel
    clear c1 hs
    have q1 := hJ _ _ hJk
    by_cases hlt : (k : Int) < pr zs
    · have hpos := allPos_of h0 (p := (k : Nat)) (by omega) hlt
      have cl := q1.list.cell
      have hi := indices_any co n c zs (k : Nat) wr q1.rd hpos (by omega) (by omega)
      clear q1
      gi_wp2_with (refine ⟨trivial, ?_⟩; gi_at_call 64; refine (callsIn_wide.2 hi).mono ?_; rintro e w2 ⟨ao, c2, rfl, hf, hb2⟩; have hJ2 := hJb _ _ _ hJk hb2; obtain ⟨fn, tmps, assign, body, hy, hR⟩ := hY k wr w2 ao c2 hlt hJ2 hb2.size hJk hf)
      refine hR.mono ?_
      rintro e W3 ⟨rfl, hJ3⟩
      gi_wp2
      go_roundw
      case rel => exact ⟨k + 1, by omega, by go_num, hJ3⟩
      case measure => simp [intOf]; omega
    · gi_wp2
      go_end0
      exact ⟨⟨_, rfl⟩, by rw [show (pr zs).toNat = k by omega]; exact hJk⟩

theorem cell_loop {W : World} {l : Nat} {r : Loop} (h : W.heap[l]? = some (.loop r)) (off : Nat) : W.cell? ⟨l, off, none⟩ = none := by
  simp [World.cell?, h]
theorem Rd.keptL {w w' : World} {l : Nat} {r : Loop} {ao : Option Addr} {n : Nat} {zs : List Int} (h : Rd w ao n zs) (hg : w.grownBy w' (some l)) (hl : w.heap[l]? = some (.loop r)) : Rd w' ao n zs := by
  refine ⟨h.len, h.room, h.num, fun h0 => ?_⟩
  obtain ⟨b, off, e, hb, hc⟩ := h.cells h0
  refine ⟨b, off, e, Nat.lt_of_lt_of_le hb hg.size, fun k hk => hg.cell (hc k hk) (fun e => ?_)⟩
  cases e
  have := hc 0 h0
  rw [cell_loop hl] at this
  cases this
theorem Fr.keptL {w w' : World} {B l : Nat} {r : Loop} {ao : Option Addr} {n cap : Nat} {zs : List Int} (h : Fr w B ao n cap zs) (hg : w.grownBy w' (some l)) (hl : w.heap[l]? = some (.loop r)) : Fr w' B ao n cap zs := by
  refine h.kept hg ?_
  rcases h.own.2 with ⟨e, _⟩ | ⟨g, c, cur, e, _, hgg, _⟩
  · cases e; intro b off e; cases e
  · cases e
    intro b off e e2
    cases e; cases e2
    rw [hl] at hgg
    cases hgg
theorem Sq.kept {w w' : World} {row : Option Nat} {B1 B2 : Nat} {co : Option Addr} {n c : Nat} {zs : List Int} (h : Sq w B1 B2 co n c zs) (hg : w.grownBy w' row) (h1 : some B1 ≠ row) (h2 : some B2 ≠ row) (h3 : ∀ b off, co = some ⟨b, off, none⟩ → some b ≠ row) : Sq w' B1 B2 co n c zs :=
  ⟨h.size.kept hg h1, h.list.kept hg h2, h.rd.kept hg h3⟩
end Go.Proofs.YtppcfpiihkaopaaGreatDoor
