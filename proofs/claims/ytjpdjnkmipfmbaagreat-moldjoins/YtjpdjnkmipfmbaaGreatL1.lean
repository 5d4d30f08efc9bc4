
/- Contract: an array's atoms are laid to the beginning of each axis of a common shape. -/

import Derived.Test.YtjpdjnkmipfmbaaGreatMath2
import Derived.Test.YtjpdjnkmipfmbaaGreatBegun
import Derived.Test.YtjpdjnkmipfmbaaGreatC13

namespace Go.Proofs.YtjpdjnkmipfmbaaGreat

set_option linter.unusedVariables false

theorem plc_digs {zs : List Int} {p : Int} (hp : allPos zs) (h0 : 0 ≤ p) (hlt : p < pr zs) : ∀ m, m ≤ zs.length → plc zs (digs zs p) m = p / pr (zs.drop m)
  | 0, _ => by simp only [plc, List.drop_zero]; rw [Int.ediv_eq_zero_of_lt h0 hlt]
  | m + 1, hm => by
    simp only [plc]
    rw [plc_digs hp h0 hlt m (by omega), nth_digs (by omega), quo_step (m := m) (by omega) hp]
    unfold dg
    have := Int.mul_ediv_add_emod (p / pr (zs.drop (m + 1))) (nth zs m)
    rw [Int.mul_comm] at this
    exact this
theorem idx_digs {zs : List Int} {p : Int} (hp : allPos zs) : idx zs (digs zs p) zs.length := fun j hj => by
  rw [nth_digs hj]; exact dg_bd hj hp

/-- A place's indices lead to it. -/
theorem place_digs {zs : List Int} {p : Int} (h : mayF zs = 0) (h0 : 0 ≤ p) (hlt : p < pr zs) : placeE zs (digs zs p) = 0 ∧ placeN zs (digs zs p) = p := by
  have hp := allPos_of h h0 hlt
  obtain ⟨e1, e2⟩ := place_in h (digs_len zs p) (idx_digs hp)
  refine ⟨e1, ?_⟩
  rw [e2, plc_digs hp h0 hlt _ (Nat.le_refl _), List.drop_length]
  simp [pr]

theorem plc_quo {zs ys : List Int} (hp : allPos zs) (hi : idx zs ys zs.length) : ∀ d m, m + d = zs.length → plc zs ys zs.length / pr (zs.drop m) = plc zs ys m
  | 0, m, e => by
    obtain rfl : m = zs.length := by omega
    rw [List.drop_length]; simp [pr]
  | d + 1, m, e => by
    rw [quo_step (m := m) (by omega) hp, plc_quo hp hi d (m + 1) (by omega)]
    simp only [plc]
    have h1 := hi m (by omega)
    have h2 := hp m (by omega)
    rw [Int.add_comm, Int.add_mul_ediv_right _ _ (by omega), Int.ediv_eq_zero_of_lt h1.1 h1.2, Int.zero_add]

/-- Indices that lead to a place are its own. -/
theorem digs_place {zs ys : List Int} (hp : allPos zs) (hl : ys.length = zs.length) (hi : idx zs ys zs.length) : digs zs (plc zs ys zs.length) = ys := by
  refine ext_nth (by rw [digs_len, hl]) fun k hk => ?_
  rw [digs_len] at hk
  rw [nth_digs hk]
  unfold dg
  rw [plc_quo hp hi (zs.length - (k + 1)) (k + 1) (by omega)]
  simp only [plc]
  have h1 := hi k hk
  rw [Int.add_comm, Int.add_mul_emod_self_right, Int.emod_eq_of_lt h1.1 h1.2]

/-- Indices rise in row order. -/
theorem rise {zs ys0 bs : List Int} (hz : ∀ j, j < zs.length → 0 ≤ nth zs j) : ∀ m, m ≤ zs.length → idx zs ys0 m → idx zs bs m → plc zs ys0 m < plc zs bs m → ∃ k, k < m ∧ (∀ j, j < k → nth ys0 j = nth bs j) ∧ nth ys0 k < nth bs k
  | 0, _, _, _, h => by simp [plc] at h
  | m + 1, hm, ha, hb, h => by
    have hz' := hz m (by omega)
    have a1 := ha m (by omega)
    have b1 := hb m (by omega)
    by_cases c : plc zs ys0 m < plc zs bs m
    · obtain ⟨k, h1, h2, h3⟩ := rise hz m (by omega) (fun j hj => ha j (by omega)) (fun j hj => hb j (by omega)) c
      exact ⟨k, by omega, h2, h3⟩
    · have c2 : plc zs bs m ≤ plc zs ys0 m := by omega
      by_cases e : plc zs bs m = plc zs ys0 m
      · refine ⟨m, by omega, ?_, ?_⟩
        · intro j hj
          by_cases ee : nth ys0 j = nth bs j
          · exact ee
          · exact absurd e.symm (plc_ne hz m (by omega) (fun j hj => ha j (by omega)) (fun j hj => hb j (by omega)) ⟨j, hj, ee⟩)
        · simp only [plc] at h; rw [e] at h; omega
      · have h2 : plc zs bs m + 1 ≤ plc zs ys0 m := by omega
        have h3 := Int.mul_le_mul_of_nonneg_right h2 hz'
        rw [Int.add_mul] at h3
        simp only [plc] at h
        omega
where
  plc_ne {zs ys0 bs : List Int} (hz : ∀ j, j < zs.length → 0 ≤ nth zs j) : ∀ m, m ≤ zs.length → idx zs ys0 m → idx zs bs m → (∃ j, j < m ∧ nth ys0 j ≠ nth bs j) → plc zs ys0 m ≠ plc zs bs m
    | 0, _, _, _, ⟨j, hj, _⟩ => by omega
    | m + 1, hm, ha, hb, ⟨j, hj, hne⟩ => by
      have hz' := hz m (by omega)
      have a1 := ha m (by omega)
      have b1 := hb m (by omega)
      intro e
      simp only [plc] at e
      by_cases c : plc zs ys0 m = plc zs bs m
      · by_cases ej : j = m
        · subst ej; rw [c] at e; omega
        · exact plc_ne hz m (by omega) (fun j hj => ha j (by omega)) (fun j hj => hb j (by omega)) ⟨j, by omega, hne⟩ c
      · by_cases c2 : plc zs ys0 m < plc zs bs m
        · have h3 := Int.mul_le_mul_of_nonneg_right (show plc zs ys0 m + 1 ≤ plc zs bs m by omega) hz'
          rw [Int.add_mul] at h3; omega
        · have h3 := Int.mul_le_mul_of_nonneg_right (show plc zs bs m + 1 ≤ plc zs ys0 m by omega) hz'
          rw [Int.add_mul] at h3; omega

theorem rise_digs {zs : List Int} {p : Int} (h : mayF zs = 0) (h0 : 0 ≤ p) (hlt : p + 1 < pr zs) : ∃ k, k < zs.length ∧ (∀ j, j < k → nth (digs zs p) j = nth (digs zs (p + 1)) j) ∧ nth (digs zs p) k < nth (digs zs (p + 1)) k := by
  have hp := allPos_of h h0 (by omega : p < pr zs)
  refine rise (mayF_zero h).1 zs.length (Nat.le_refl _) (idx_digs hp) (idx_digs hp) ?_
  rw [plc_digs hp h0 (by omega) _ (Nat.le_refl _), plc_digs hp (by omega) hlt _ (Nat.le_refl _), List.drop_length]
  simp [pr]; omega

/-- A place that was told has its indices. -/
theorem back {zs ys : List Int} (h : mayF zs = 0) (hE : placeE zs ys = 0) : 0 ≤ placeN zs ys ∧ placeN zs ys < pr zs ∧ digs zs (placeN zs ys) = ys := by
  by_cases hl : ys.length = zs.length
  · by_cases hi : idx zs ys zs.length
    · have e := (place_in h hl hi).2
      have bd := plc_bd (zs := zs) (ys := ys) zs.length (Nat.le_refl _) hi
      rw [List.take_length] at bd
      rw [e]
      exact ⟨bd.1, by omega, digs_place (allPos_of h bd.1 (by omega)) hl hi⟩
    · have : placeE zs ys = 13 := by unfold placeE; rw [if_neg (by omega), if_neg (by omega), if_neg hi]
      omega
  · have := (place_rank h hl).1; omega
end Go.Proofs.YtjpdjnkmipfmbaaGreat



namespace Go.Proofs.YtjpdjnkmipfmbaaGreat

open Go.RowKit Go.Shelf
attribute [local go_sem] Oper.semAt_some
set_option linter.unusedVariables false

set_option maxRecDepth 100000 in
set_option maxHeartbeats 2000000 in
/-- What All handed out, ranged over: every place, one behind the other. -/
theorem all1_range (q l B1 B2 : Nat) (hq : 1 ≤ q) (co : Option Addr) (n c : Nat) (zs : List Int) (h0 : mayF zs = 0) (J : Nat → World → Prop)
    (hJ : ∀ k W, J k W → Sq W B1 B2 co n c zs) (hJb : ∀ k W W', J k W → Below W.heap.size W W' → J k W')
    (hY : ∀ (k : Nat) W0 W ao c', (k : Int) < pr zs → J k W → W0.heap.size ≤ W.heap.size → J k W0 → Fr W W0.heap.size ao n c' (digs zs k) → YieldAt Fence.wide (q - 1) Tryz.prog l #[.int .i64 (k : Nat), .slice ao n c'] W fun e W' => e = .returned (.bool true) ∧ J (k + 1) W')
    (W : World) (hs : J 0 W) :
    CallsIn Fence.wide q Tryz.prog 116 #[.func (.yield l) #[] #[], .pointer (some ⟨B1, 0, none⟩), .pointer (some ⟨B2, 0, none⟩)] W fun e W' => (∃ v, e = .returned v) ∧ J (pr zs).toNat W' := by
  have hpb := pr_le h0
  have c1 := (hJ _ _ hs).size.cell
  rw [sizeF_ok h0] at c1
  refine callsIn_of_wp Tryz.func116 rfl trivial ?_ rfl
  simp only [Tryz.ntmps116, List.size_toArray, List.length_cons, List.length_nil, Nat.reduceAdd, Nat.reduceSub, Array.replicate_succ, Array.replicate_zero, List.push_toArray, List.append_toArray, List.nil_append, List.cons_append]
  gi_wp2
  gi_loopw [6] (fun i wr => ∃ k : Nat, (k : Int) ≤ pr zs ∧ i = .int .i64 (k : Nat) ∧ J k wr) (fun i _ => (pr zs - intOf i).toNat)
  case atStart => exact ⟨0, by simpa using hpb.1, rfl, hs⟩
  case round =>
    obtain ⟨k, hk, rfl, hJk⟩ := hrel
    clear c1 hs
    have q1 := hJ _ _ hJk
    by_cases hlt : (k : Int) < pr zs
    · have hpos := allPos_of h0 (p := (k : Nat)) (by omega) hlt
      have cl := q1.list.cell
      have hi := indices_any co n c zs (k : Nat) wr q1.rd hpos (by omega) (by omega)
      clear q1
      gi_wp2_with (refine ⟨trivial, ?_⟩; gi_at_call 117; refine (callsIn_wide.2 hi).mono ?_; rintro e w2 ⟨ao, c2, rfl, hf, hb2⟩; have hJ2 := hJb _ _ _ hJk hb2; obtain ⟨fn, tmps, assign, body, hy, hR⟩ := hY k wr w2 ao c2 hlt hJ2 hb2.size hJk hf)
      refine hR.mono ?_
      rintro e W3 ⟨rfl, hJ3⟩
      gi_wp2
      go_roundw
      case rel => exact ⟨k + 1, by omega, by go_num, hJ3⟩
      case measure => simp [intOf]; omega
    · gi_wp2
      go_end0
      exact ⟨⟨_, rfl⟩, by rw [show (pr zs).toNat = k by omega]; exact hJk⟩

theorem wpListIn_copy {F : Fence} {n' : Nat} {w : World} {ops : Array Oper} {rest : List Oper} {o : Oper} {a : Act} {Q : Exit → Act → World → Prop} (hgd : o.guard = none) (s x : Operand)
    (ho : o.op = .call { callee := .builtin .append, args := #[s, x], argTypes := #[23, 23] }) (ao : Option Addr) (n cap : Nat) (zs : List Int)
    (hs : a.eval s = .slice none 0 0) (hx : a.eval x = .slice ao n cap) (h : Rd w ao n zs)
    (hK : ∀ ao' cap' w', Fr w' w.heap.size ao' n cap' zs → Below w.heap.size w w' → wpListIn F n' Tryz.prog ops Q rest (a.put o.dst (.slice ao' n cap')) w') : wpListIn F n' Tryz.prog ops Q (o :: rest) a w := by
  obtain ⟨ao', cap', w', hrun, hf, hb⟩ := run_copy o.type ao n cap zs h
  refine wpListIn_plain hgd fun K hK' => ?_
  unfold Oper.wpIn
  refine ⟨?_, ?_⟩
  · simp [Oper.about, ho, resolve, Target.leads, Sem.run_pure]
  · rw [Oper.semAt_plain F _ _ (by rw [ho]; intro c hc'; cases hc')]
    simp [execOp, ho, resolve, invoke, builtin, hs, hx, hrun, Result.andThen]
    exact hK' _ _ (hK _ _ _ hf hb)

theorem cell_loop {W : World} {l : Nat} {r : Loop} (h : W.heap[l]? = some (.loop r)) (off : Nat) : W.cell? ⟨l, off, none⟩ = none := by
  simp [World.cell?, h]
theorem Rd.keptL {w w' : World} {l : Nat} {r : Loop} {ao : Option Addr} {n : Nat} {zs : List Int} (h : Rd w ao n zs) (hg : w.grownBy w' (some l)) (hl : w.heap[l]? = some (.loop r)) : Rd w' ao n zs := by
  refine ⟨h.len, h.room, h.num, fun h0 => ?_⟩
  obtain ⟨b, off, e, hb, hc⟩ := h.cells h0
  refine ⟨b, off, e, Nat.lt_of_lt_of_le hb hg.size, fun k hk => hg.cell (hc k hk) (fun e => ?_)⟩
  cases e
  have := hc 0 h0
  rw [cell_loop hl] at this
  cases this
theorem Fr.keptL {w w' : World} {B l : Nat} {r : Loop} {ao : Option Addr} {n cap : Nat} {zs : List Int} (h : Fr w B ao n cap zs) (hg : w.grownBy w' (some l)) (hl : w.heap[l]? = some (.loop r)) : Fr w' B ao n cap zs := by
  refine h.kept hg ?_
  rcases h.own.2 with ⟨e, _⟩ | ⟨g, c, cur, e, _, hgg, _⟩
  · cases e; intro b off e; cases e
  · cases e
    intro b off e e2
    cases e; cases e2
    rw [hl] at hgg
    cases hgg
theorem Sq.kept {w w' : World} {row : Option Nat} {B1 B2 : Nat} {co : Option Addr} {n c : Nat} {zs : List Int} (h : Sq w B1 B2 co n c zs) (hg : w.grownBy w' row) (h1 : some B1 ≠ row) (h2 : some B2 ≠ row) (h3 : ∀ b off, co = some ⟨b, off, none⟩ → some b ≠ row) : Sq w' B1 B2 co n c zs :=
  ⟨h.size.kept hg h1, h.list.kept hg h2, h.rd.kept hg h3⟩
end Go.Proofs.YtjpdjnkmipfmbaaGreat




namespace Go.Proofs.YtjpdjnkmipfmbaaGreat

open Go.RowKit Go.Shelf
attribute [local go_sem] Oper.semAt_some
set_option linter.unusedVariables false

/-- Where the k-th atom goes: its indices, zeros ahead. -/
def aix (cm sh : List Int) (k : Nat) : List Int := List.replicate (cm.length - sh.length) 0 ++ digs sh k
def tgt (cm sh : List Int) (k : Nat) : Nat := (plc cm (aix cm sh k) cm.length).toNat
/-- A row, the first k atoms laid into it from off on. -/
def lyK (cur : List Value) (off : Nat) (cm sh at' : List Int) : Nat → List Value
  | 0 => cur
  | k + 1 => (lyK cur off cm sh at' k).set (off + tgt cm sh k) (.int .i64 (nth at' k))
theorem lyK_len (cur : List Value) (off : Nat) (cm sh at' : List Int) : ∀ k, (lyK cur off cm sh at' k).length = cur.length
  | 0 => rfl
  | k + 1 => by show (List.set _ _ _).length = _; rw [List.length_set, lyK_len cur off cm sh at' k]
/-- A shape that lies within another, its axes the last ones. -/
structure Wn (cm sh : List Int) : Prop where
  mc : mayF cm = 0
  ms : mayF sh = 0
  le : sh.length ≤ cm.length
  dom : ∀ i, i < cm.length → ext sh cm.length i ≤ nth cm i

theorem aix_len {cm sh : List Int} (h : Wn cm sh) (k : Nat) : (aix cm sh k).length = cm.length := by
  unfold aix
  rw [List.length_append, List.length_replicate, digs_len]
  have := h.le
  omega
theorem nth_app_left {a b : List Int} {i : Nat} (h : i < a.length) : nth (a ++ b) i = nth a i := by simp [nth, List.getElem?_append, h]
theorem nth_app_right {a b : List Int} {i : Nat} (h : a.length ≤ i) : nth (a ++ b) i = nth b (i - a.length) := by simp [nth, List.getElem?_append, show ¬ i < a.length by omega]
theorem aix_idx {cm sh : List Int} (h : Wn cm sh) {k : Nat} (hk : (k : Int) < pr sh) : idx cm (aix cm sh k) cm.length := by
  intro j hj
  have hd := idx_digs (p := (k : Int)) (allPos_of h.ms (p := (k : Nat)) (by omega) hk)
  have hl := h.le
  have dm := h.dom j hj
  unfold ext at dm
  unfold aix
  by_cases c : j < cm.length - sh.length
  · rw [if_neg (by omega)] at dm
    rw [nth_app_left (by rw [List.length_replicate]; exact c)]
    have : nth (List.replicate (cm.length - sh.length) 0) j = 0 := by simp [nth, c]
    rw [this]; omega
  · rw [if_pos (by omega)] at dm
    rw [nth_app_right (by rw [List.length_replicate]; omega), List.length_replicate]
    have := hd (j - (cm.length - sh.length)) (by omega)
    omega
theorem tgt_ok {cm sh : List Int} (h : Wn cm sh) {k : Nat} (hk : (k : Int) < pr sh) : placeE cm (aix cm sh k) = 0 ∧ placeN cm (aix cm sh k) = (tgt cm sh k : Nat) ∧ (tgt cm sh k : Int) < pr cm := by
  have hi := aix_idx h hk
  have e : placeE cm (aix cm sh k) = 0 := by
    unfold placeE
    rw [if_neg (by have := h.mc; omega), if_neg (by rw [aix_len h]; omega), if_pos hi]
  have b := plc_bd cm.length (Nat.le_refl _) hi
  rw [List.take_length] at b
  refine ⟨e, ?_, ?_⟩
  · unfold placeN tgt; rw [if_pos e]; omega
  · unfold tgt; omega
end Go.Proofs.YtjpdjnkmipfmbaaGreat
