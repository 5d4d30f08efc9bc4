
/- Items and the whole: what AtomBelow asks of lists. -/

import Derived.Test.YtjllmfahmlfljaaU2

namespace Go.Proofs.Ytjllmfahmlfljaa

open Go.RowKit Go.Deep

set_option linter.unusedVariables false

theorem fe_append : ∀ (a b : List Int), fe (a ++ b) = if fe a = 0 then fe b else fe a
  | [], b => by simp [fe]
  | e :: r, b => by
    by_cases h : e = 0
    · have h1 : fe (e :: (r ++ b)) = fe (r ++ b) := if_pos h
      have h2 : fe (e :: r) = fe r := if_pos h
      rw [List.cons_append, h1, h2]
      exact fe_append r b
    · have h1 : fe (e :: (r ++ b)) = e := if_neg h
      have h2 : fe (e :: r) = e := if_neg h
      rw [List.cons_append, h1, h2, if_neg h]
theorem range_more (F : Nat → Int) (k z : Nat) : (List.range ((k + 1) * z)).map F = (List.range (k * z)).map F ++ (List.range z).map (fun j => F (k * z + j)) := by
  rw [Nat.add_mul, Nat.one_mul, List.range_add, List.map_append, List.map_map]
  rfl
/-- The error of item k. -/
def eI (G : Nat → Int) (z k : Nat) : Int := fe ((List.range z).map (fun j => G (k * z + j)))
theorem fe_items (G : Nat → Int) (z : Nat) : ∀ N, fe ((List.range (N * z)).map G) = fe ((List.range N).map (eI G z))
  | 0 => by rw [Nat.zero_mul]; rfl
  | N + 1 => by
    rw [range_more, fe_append, fe_items G z N, List.range_succ, List.map_append, fe_append]
    show _ = if _ then fe [eI G z N] else _
    have : fe [eI G z N] = eI G z N := by
      unfold fe
      by_cases h : eI G z N = 0
      · rw [if_pos h, h]; rfl
      · rw [if_neg h]
    rw [this]; rfl

/-- One shape begins the other, on the left. -/
theorem dy_pre (op : Int) (L ax ay : List Int) (p : Nat) (hp : p ≤ L.length) :
    agrB (L.take p) L = true ∧ agrL (L.take p) L = L ∧ dyR op (L.take p) ax L ay = (List.range (pr L).toNat).map (fun i => Nm.dE op (nth ax (i / (pr (L.drop p)).toNat)) (nth ay i)) ∧ dyL op (L.take p) ax L ay = (List.range (pr L).toNat).map (fun i => Nm.dN op (nth ax (i / (pr (L.drop p)).toNat)) (nth ay i)) := by
  have ha : agrB (L.take p) L = true := agr_yes fun k h1 _ => by rw [List.length_take] at h1; exact nth_take (by omega)
  have hL : agrL (L.take p) L = L := (agr_pre L p hp).2
  have hl : (L.take p).length = p := by rw [List.length_take]; omega
  have b1 : dyB (L.take p) L (L.take p) = (pr (L.drop p)).toNat := by unfold dyB; rw [hL, hl]
  have b2 : dyB (L.take p) L L = 1 := by unfold dyB; rw [hL, List.drop_length]; simp [pr]
  refine ⟨ha, hL, ?_, ?_⟩
  · unfold dyR dyN; rw [hL]
    apply List.map_congr_left
    intro i _
    unfold dyG
    rw [b1, b2, Nat.div_one]
  · unfold dyL dyN; rw [hL]
    apply List.map_congr_left
    intro i _
    unfold dyF
    rw [b1, b2, Nat.div_one]
/-- .., on the right. -/
theorem dy_post (op : Int) (L ax ay : List Int) (p : Nat) (hp : p ≤ L.length) :
    agrB L (L.take p) = true ∧ agrL L (L.take p) = L ∧ dyR op L ay (L.take p) ax = (List.range (pr L).toNat).map (fun i => Nm.dE op (nth ay i) (nth ax (i / (pr (L.drop p)).toNat))) ∧ dyL op L ay (L.take p) ax = (List.range (pr L).toNat).map (fun i => Nm.dN op (nth ay i) (nth ax (i / (pr (L.drop p)).toNat))) := by
  have ha : agrB L (L.take p) = true := by rw [agrB_comm]; exact (dy_pre op L ax ay p hp).1
  have hL : agrL L (L.take p) = L := (agr_post L p hp).2
  have hl : (L.take p).length = p := by rw [List.length_take]; omega
  have b1 : dyB L (L.take p) (L.take p) = (pr (L.drop p)).toNat := by unfold dyB; rw [hL, hl]
  have b2 : dyB L (L.take p) L = 1 := by unfold dyB; rw [hL, List.drop_length]; simp [pr]
  refine ⟨ha, hL, ?_, ?_⟩
  · unfold dyR dyN; rw [hL]
    apply List.map_congr_left
    intro i _
    unfold dyG
    rw [b1, b2, Nat.div_one]
  · unfold dyL dyN; rw [hL]
    apply List.map_congr_left
    intro i _
    unfold dyF
    rw [b1, b2, Nat.div_one]

/-- Dyad where one shape begins the other: n numbers F, their errors G. -/
theorem dyad_pre (op : Int) (so ao to bo : Option Addr) (sn sc an ac tn tc bn bc : Nat) (S L ax ay : List Int) (p n : Nat) (F G : Nat → Int) (w : World) (h1 : Rd w so sn S) (h2 : Rd w ao an ax) (h3 : Rd w to tn L) (h4 : Rd w bo bn ay) (hs : Sl so sn sc) (ht : Sl to tn tc) (hk : lck (Nm.dE op 0 0) = false) (hS : L.take p = S) (hp : p ≤ L.length) (m0 : mayA S ax = 0) (m1 : mayA L ay = 0) (hn : (pr L).toNat = n)
    (hF : ∀ i, i < n → Nm.dN op (nth ax (i / (pr (L.drop p)).toNat)) (nth ay i) = F i) (hG : ∀ i, i < n → Nm.dE op (nth ax (i / (pr (L.drop p)).toNat)) (nth ay i) = G i) :
    Calls Try.prog 35 #[.int .i64 op, .agg #[.slice so sn sc, .slice ao an ac], .agg #[.slice to tn tc, .slice bo bn bc]] w fun e w' => ∃ o1 n1 c1 o2 n2 c2, e = .returned (.tuple #[.agg #[.slice o1 n1 c1, .slice o2 n2 c2], .int .i64 (fe ((List.range n).map G))]) ∧ Ft 3 w' w.heap.size o1 n1 c1 (onOk (fe ((List.range n).map G)) L) ∧ Ft 2 w' w.heap.size o2 n2 c2 (onOk (fe ((List.range n).map G)) ((List.range n).map F)) ∧ Below w.heap.size w w' := by
  subst hS hn
  obtain ⟨e1, e2, e3, e4⟩ := dy_pre op L ax ay p hp
  have e3' : dyR op (L.take p) ax L ay = (List.range (pr L).toNat).map G := by rw [e3]; exact List.map_congr_left fun i hi => hG i (List.mem_range.1 hi)
  have e4' : dyL op (L.take p) ax L ay = (List.range (pr L).toNat).map F := by rw [e4]; exact List.map_congr_left fun i hi => hF i (List.mem_range.1 hi)
  have hE : ddE op (L.take p) ax L ay = fe ((List.range (pr L).toNat).map G) := by
    unfold ddE
    rw [if_neg (by rw [m0, m1]; simp), if_neg (by rw [hk]; decide), if_pos e1, e3']
  have := dyad_any op so ao to bo sn sc an ac tn tc bn bc (L.take p) ax L ay w h1 h2 h3 h4 hs ht
  unfold ddS ddA at this
  rw [hE, e2, e4'] at this
  exact this.mono fun e w' ⟨o1, n1, c1, o2, n2, c2, x1, x2, x3, x4⟩ => ⟨o1, n1, c1, o2, n2, c2, x1, x2, x3, x4⟩
theorem dyad_post (op : Int) (so ao to bo : Option Addr) (sn sc an ac tn tc bn bc : Nat) (S L ax ay : List Int) (p n : Nat) (F G : Nat → Int) (w : World) (h1 : Rd w so sn S) (h2 : Rd w ao an ax) (h3 : Rd w to tn L) (h4 : Rd w bo bn ay) (hs : Sl so sn sc) (ht : Sl to tn tc) (hk : lck (Nm.dE op 0 0) = false) (hS : L.take p = S) (hp : p ≤ L.length) (m0 : mayA S ax = 0) (m1 : mayA L ay = 0) (hn : (pr L).toNat = n)
    (hF : ∀ i, i < n → Nm.dN op (nth ay i) (nth ax (i / (pr (L.drop p)).toNat)) = F i) (hG : ∀ i, i < n → Nm.dE op (nth ay i) (nth ax (i / (pr (L.drop p)).toNat)) = G i) :
    Calls Try.prog 35 #[.int .i64 op, .agg #[.slice to tn tc, .slice bo bn bc], .agg #[.slice so sn sc, .slice ao an ac]] w fun e w' => ∃ o1 n1 c1 o2 n2 c2, e = .returned (.tuple #[.agg #[.slice o1 n1 c1, .slice o2 n2 c2], .int .i64 (fe ((List.range n).map G))]) ∧ Ft 3 w' w.heap.size o1 n1 c1 (onOk (fe ((List.range n).map G)) L) ∧ Ft 2 w' w.heap.size o2 n2 c2 (onOk (fe ((List.range n).map G)) ((List.range n).map F)) ∧ Below w.heap.size w w' := by
  subst hS hn
  obtain ⟨e1, e2, e3, e4⟩ := dy_post op L ax ay p hp
  have e3' : dyR op L ay (L.take p) ax = (List.range (pr L).toNat).map G := by rw [e3]; exact List.map_congr_left fun i hi => hG i (List.mem_range.1 hi)
  have e4' : dyL op L ay (L.take p) ax = (List.range (pr L).toNat).map F := by rw [e4]; exact List.map_congr_left fun i hi => hF i (List.mem_range.1 hi)
  have hE : ddE op L ay (L.take p) ax = fe ((List.range (pr L).toNat).map G) := by
    unfold ddE
    rw [if_neg (by rw [m0, m1]; simp), if_neg (by rw [hk]; decide), if_pos e1, e3']
  have := dyad_any op to bo so ao tn tc bn bc sn sc an ac L ay (L.take p) ax w h3 h4 h1 h2 ht hs
  unfold ddS ddA at this
  rw [hE, e2, e4'] at this
  exact this.mono fun e w' ⟨o1, n1, c1, o2, n2, c2, x1, x2, x3, x4⟩ => ⟨o1, n1, c1, o2, n2, c2, x1, x2, x3, x4⟩

/-- An item of an array that may be. -/
theorem item_at2 (so ao : Option Addr) (sn sc an ac : Nat) (sh at' : List Int) (W : World) (h : Rd W so sn sh) (hs : Sl so sn sc) (g : Rd W ao an at') (gs : Sl ao an ac) (h0 : mayA sh at' = 0) {N z : Nat} (hN : tal sh = N) (hz : itmZ sh at' = z) (k : Nat) (hk : k < N) :
    Calls Try.prog 37 #[.agg #[.slice so sn sc, .slice ao an ac], .int .i64 (k : Nat)] W fun e w' => ∃ o1 c1 o2 c2, e = .returned (.tuple #[.agg #[.slice o1 (sn - 1) c1, .slice o2 z c2], .int .i64 0]) ∧ Rd w' o1 (sn - 1) (sh.drop 1) ∧ Sl o1 (sn - 1) c1 ∧ Rd w' o2 z ((at'.drop (k * z)).take z) ∧ Sl o2 z c2 ∧ Below W.heap.size W w' := by
  refine (item_any so ao sn sc an ac sh at' k W h hs g gs).mono fun e w' ⟨o1, n1, c1, o2, n2, c2, x1, x2, x3, x4, x5⟩ => ?_
  have e0 := itmE_in (i := (k : Int)) h0 (by rw [hN]; omega)
  obtain ⟨e1, e2⟩ := itm_yes e0
  have ej : itmJ sh k = k := by unfold itmJ; rw [hN]; split <;> omega
  rw [ej, hz] at e2
  rw [e0] at x1
  rw [e1] at x2
  rw [e2] at x3
  obtain ⟨t1, t2⟩ := items_all h0 hN hz
  have l1 := x2.rd.len
  have l2 := x3.rd.len
  rw [List.length_drop, h.len] at l1
  rw [part_len t1 hk] at l2
  subst l1 l2
  exact ⟨o1, c1, o2, c2, x1, x2.rd, x2.sl, x3.rd, x3.sl, x5⟩
end Go.Proofs.Ytjllmfahmlfljaa
