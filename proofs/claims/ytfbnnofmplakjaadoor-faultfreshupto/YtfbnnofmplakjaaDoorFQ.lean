
/- The steps in a row. -/

import Derived.Test.YtfbnnofmplakjaaDoorFP

namespace Go.Proofs.YtfbnnofmplakjaaDoor

open Go.RowKit Go.Extern.Stop Go.Stop Go.Extern

set_option linter.unusedVariables false

def stp (ls : List Lk) (kk : Int) (nm : List UInt8) : List Lk := if kk = 1 then some nm :: ls else if kk = 2 then none :: ls else ls
theorem stp_len (ls : List Lk) (kk : Int) (nm : List UInt8) : (stp ls kk nm).length ≤ ls.length + 1 := by
  unfold stp; split
  · simp
  · split <;> simp
theorem stp_tx (ls : List Lk) (kk : Int) (nm : List UInt8) (b : Bs) : (tx (stp ls kk nm) b).length ≤ (tx ls b).length + nm.length + 9 := by
  unfold stp; split
  · simp [tx, wCol]; omega
  · split
    · simp [tx, wOut]
    · omega
/-- The book of a chain. -/
abbrev bk (b : Bs) (na : Option Addr) (nn nc : Nat) (t : List UInt8) : Value := .agg #[.bool true, .int .i64 (cdE b), .int .i64 (plc b), .slice na nn nc, .string ⟨t.toArray⟩]
theorem own_slice {w : World} {B n : Nat} {v : Value} {xs : List Value} (h : w.ownsRow B 9 1 v n xs) : ∃ a c, v = .slice a n c := by
  rcases h.2 with ⟨rfl, rfl⟩ | ⟨g, cap, cur, rfl, _⟩
  · exact ⟨none, 0, rfl⟩
  · exact ⟨_, _, rfl⟩
theorem more_any (w : World) (B : Nat) (e : Value) (na : Option Addr) (nn nc : Nat) (ls : List Lk) (b : Bs) (kk : Int) (nm : List UInt8) (h : Ch w e ls b) (hr : St w B (.slice na nn nc) (nms ls)) (hB : B ≤ w.heap.size) (hl : ls.length ≤ 8796093022000) (ht : (tx ls b).length ≤ 1152921504606846976) (hn : nm.length ≤ 1152921504606846976) :
    Calls Tryd.prog 11 #[e, bk b na nn nc (tx ls b), .agg #[.int .i64 kk, .string ⟨nm.toArray⟩]] w fun r w' => ∃ e' na' nn' nc', r = .returned (.tuple #[e', bk b na' nn' nc' (tx (stp ls kk nm) b)]) ∧ Ch w' e' (stp ls kk nm) b ∧ St w' B (.slice na' nn' nc') (nms (stp ls kk nm)) ∧ w.grownBy w' (Value.slice na nn nc).ownBlock := by
  by_cases h1 : kk = 1
  · subst h1
    have e1 : stp ls 1 nm = some nm :: ls := rfl
    refine (more_in w B e _ ls b (cdE b) (plc b) (tx ls b) nm (nms ls) h hr hB (Nat.le_trans (nms_len ls) hl) ht hn).mono ?_
    rintro r w' ⟨e', nv', rfl, hc, hs, hg⟩
    obtain ⟨a, c, rfl⟩ := own_slice hs
    exact ⟨e', _, _, _, rfl, hc, by rw [e1, nms_some]; exact hs, hg⟩
  · by_cases h2 : kk = 2
    · subst h2
      have e1 : stp ls 2 nm = none :: ls := rfl
      refine (more_out w e na nn nc ls b (cdE b) (plc b) (tx ls b) nm h ht).mono ?_
      rintro r w' ⟨e', rfl, hc, hb⟩
      exact ⟨e', _, _, _, rfl, hc, by rw [e1, nms_none]; exact own_below hr hb, grown_of hb _⟩
    · have e1 : stp ls kk nm = ls := by unfold stp; rw [if_neg h1, if_neg h2]
      obtain ⟨te, ve, rfl⟩ := h.iface
      refine (more_idle w te ve na nn nc (cdE b) (plc b) (tx ls b) nm kk h1 h2).mono ?_
      rintro r w' ⟨rfl, hb⟩
      exact ⟨_, _, _, _, by rw [e1], by rw [e1]; exact Ch.below hb (Nat.le_refl _) h, by rw [e1]; exact own_below hr hb, grown_of hb _⟩
theorem more_none (w : World) (na : Option Addr) (nn nc : Nat) (c p : Int) (t nm : List UInt8) (kk : Int) :
    Calls Tryd.prog 11 #[.nilIface, .agg #[.bool false, .int .i64 c, .int .i64 p, .slice na nn nc, .string ⟨t.toArray⟩], .agg #[.int .i64 kk, .string ⟨nm.toArray⟩]] w fun r w' => r = .returned (.tuple #[.nilIface, .agg #[.bool false, .int .i64 c, .int .i64 p, .slice na nn nc, .string ⟨t.toArray⟩]]) ∧ Below w.heap.size w w' := by
  by_cases h1 : kk = 1
  · subst h1; exact more_dead1 w na nn nc c p t nm
  · by_cases h2 : kk = 2
    · subst h2; exact more_dead2 w na nn nc c p t nm
    · exact more_dead w na nn nc c p t nm kk h1 h2

/-- The steps, as they are read. -/
structure Sp (w : World) (so : Option Addr) (n : Nat) (xs : List (Int × List UInt8)) : Prop where
  len : xs.length = n
  room : n * 24 ≤ 140737488351232
  txt : ∀ x ∈ xs, x.2.length ≤ 140737488351232
  cells : 0 < n → ∃ sb off, so = some ⟨sb, off, none⟩ ∧ sb < w.heap.size ∧ ∀ k x, xs[k]? = some x → w.cell? ⟨sb, off + k * 2, none⟩ = some (.int .i64 x.1) ∧ w.cell? ⟨sb, off + k * 2 + 1, none⟩ = some (.string ⟨x.2.toArray⟩)
theorem Sp.below {B : Nat} {w w' : World} {so : Option Addr} {n : Nat} {xs : List (Int × List UInt8)} (h : Sp w so n xs) (hb : Below B w w') (hB : w.heap.size ≤ B) : Sp w' so n xs := by
  refine ⟨h.len, h.room, h.txt, fun h0 => ?_⟩
  obtain ⟨sb, off, e, hl, hc⟩ := h.cells h0
  refine ⟨sb, off, e, Nat.lt_of_lt_of_le hl hb.size, fun k x hx => ?_⟩
  rw [hb.cell (p := ⟨sb, off + k * 2, none⟩) (Nat.lt_of_lt_of_le hl hB), hb.cell (p := ⟨sb, off + k * 2 + 1, none⟩) (Nat.lt_of_lt_of_le hl hB)]
  exact hc k x hx

/-- The chain behind some steps. -/
def run : List (Int × List UInt8) → List Lk
  | [] => []
  | x :: r => stp (run r) x.1 x.2
/-- Alive, between two rounds: box q holds the book. -/
def Lp (w : World) (q : Nat) (b : Bs) (k : Nat) (e : Value) (sz : Nat) (wr : World) : Prop :=
  ∃ (ls : List Lk) (na : Option Addr) (nn nc : Nat), Ch wr e ls b ∧ ls.length ≤ k ∧ St wr w.heap.size (.slice na nn nc) (nms ls) ∧
    wr.heap[q]? = some (.cells #[.bool true, .int .i64 (cdE b), .int .i64 (plc b), .slice na nn nc, .string ⟨(tx ls b).toArray⟩] 29 (0, 0)) ∧ w.heap.size ≤ q ∧ sz ≤ 562949953421312 ∧ (tx ls b).length ≤ sz + 281474976710656 ∧ Below w.heap.size w wr
theorem row_ne {w : World} {B n : Nat} {v : Value} {xs : List Value} {q : Nat} {cs : Array Value} (h : w.ownsRow B 9 1 v n xs) (hq : w.heap[q]? = some (.cells cs 29 (0, 0))) : v.ownBlock ≠ some q := by
  rcases h.2 with ⟨rfl, _⟩ | ⟨g, cap, cur, rfl, _, hg, _⟩
  · simp [Value.ownBlock]
  · intro e
    simp [Value.ownBlock] at e
    exact kinds_ne hg hq (by decide) e
theorem wr5_own {V : World} {q : Nat} {cs : Array Value} (hq : V.heap[q]? = some (.cells cs 29 (0, 0))) (x0 x1 x2 x3 x4 : Value) {B n : Nat} {v : Value} {xs : List Value} (h : V.ownsRow B 9 1 v n xs) : (wr5 V q x0 x1 x2 x3 x4).ownsRow B 9 1 v n xs := by
  have O := (((((Only.refl q q V).set ⟨q, 0, none⟩ x0 (.inl rfl)).set ⟨q, 1, none⟩ x1 (.inl rfl)).set ⟨q, 2, none⟩ x2 (.inl rfl)).set ⟨q, 3, none⟩ x3 (.inl rfl)).set ⟨q, 4, none⟩ x4 (.inl rfl)
  exact O.own hq hq h
theorem wr5_ch' {V : World} {e : Value} {ls : List Lk} {b : Bs} {q : Nat} {cs : Array Value} (hq : V.heap[q]? = some (.cells cs 29 (0, 0))) (x0 x1 x2 x3 x4 : Value) (h : Ch V e ls b) : Ch (wr5 V q x0 x1 x2 x3 x4) e ls b := by
  have O := (((((Only.refl q q V).set ⟨q, 0, none⟩ x0 (.inl rfl)).set ⟨q, 1, none⟩ x1 (.inl rfl)).set ⟨q, 2, none⟩ x2 (.inl rfl)).set ⟨q, 3, none⟩ x3 (.inl rfl)).set ⟨q, 4, none⟩ x4 (.inl rfl)
  exact O.ch hq hq h
theorem wr5_blk {V : World} {q : Nat} {a0 a1 a2 a3 a4 : Value} (hq : V.heap[q]? = some (.cells #[a0, a1, a2, a3, a4] 29 (0, 0))) (x0 x1 x2 x3 x4 : Value) : (wr5 V q x0 x1 x2 x3 x4).heap[q]? = some (.cells #[x0, x1, x2, x3, x4] 29 (0, 0)) := by
  have h0 := heap_setCell_same V q 0 _ 29 x0 hq
  have h1 := heap_setCell_same _ q 1 _ 29 x1 h0
  have h2 := heap_setCell_same _ q 2 _ 29 x2 h1
  have h3 := heap_setCell_same _ q 3 _ 29 x3 h2
  have h4 := heap_setCell_same _ q 4 _ 29 x4 h3
  exact h4
/-- One round. -/
theorem Lp.next {w : World} {q : Nat} {b : Bs} {k : Nat} {sz : Nat} {wr w1 : World} {ls : List Lk} {na : Option Addr} {nn nc : Nat} {kk : Int} {nm : List UInt8} (hlen : ls.length ≤ k) (hr : St wr w.heap.size (.slice na nn nc) (nms ls))
    (hq : wr.heap[q]? = some (.cells #[.bool true, .int .i64 (cdE b), .int .i64 (plc b), .slice na nn nc, .string ⟨(tx ls b).toArray⟩] 29 (0, 0))) (hwq : w.heap.size ≤ q) (hsz : sz < 65536) (htx : (tx ls b).length ≤ sz + 281474976710656) (hb : Below w.heap.size w wr) (hn : nm.length ≤ 140737488351232)
    {e' : Value} {na' : Option Addr} {nn' nc' : Nat} (hc : Ch w1 e' (stp ls kk nm) b) (hs : St w1 w.heap.size (.slice na' nn' nc') (nms (stp ls kk nm))) (hg : wr.grownBy w1 (Value.slice na nn nc).ownBlock) :
    Lp w q b (k + 1) e' (sz + (tx ls b).length) (wr5 w1 q (.bool true) (.int .i64 (cdE b)) (.int .i64 (plc b)) (.slice na' nn' nc') (.string ⟨(tx (stp ls kk nm) b).toArray⟩)) := by
  have hq1 : w1.heap[q]? = _ := (hg.block q (heap_lt hq) (row_ne hr hq).symm).trans hq
  have h1 := stp_len ls kk nm
  have h2 := stp_tx ls kk nm b
  have hbb : Below w.heap.size w w1 := hb.grown hg hb.size fun j hj => (hr.lt j hj).1
  exact ⟨stp ls kk nm, na', nn', nc', wr5_ch' hq1 _ _ _ _ _ hc, by omega, wr5_own hq1 _ _ _ _ _ hs, wr5_blk hq1 _ _ _ _ _, hwq, by omega, by omega, wr5_below _ _ _ _ _ hbb hwq⟩

/-- Dead, between two rounds. -/
def Ld (w : World) (q : Nat) (c p : Int) (t : List UInt8) (e : Value) (sz : Nat) (wr : World) : Prop :=
  e = .nilIface ∧ wr.heap[q]? = some (.cells #[.bool false, .int .i64 c, .int .i64 p, .slice none 0 0, .string ⟨t.toArray⟩] 29 (0, 0)) ∧ w.heap.size ≤ q ∧ t.length ≤ 60 ∧ sz ≤ 65536 + 60 ∧ Below w.heap.size w wr
theorem Ld.next {w : World} {q : Nat} {c p : Int} {t : List UInt8} {sz : Nat} {wr w1 : World} (hq : wr.heap[q]? = some (.cells #[.bool false, .int .i64 c, .int .i64 p, .slice none 0 0, .string ⟨t.toArray⟩] 29 (0, 0))) (hwq : w.heap.size ≤ q) (ht : t.length ≤ 60) (hsz : sz < 65536) (hb : Below w.heap.size w wr) (k : Below wr.heap.size wr w1) :
    Ld w q c p t .nilIface (sz + t.length) (wr5 w1 q (.bool false) (.int .i64 c) (.int .i64 p) (.slice none 0 0) (.string ⟨t.toArray⟩)) :=
  ⟨rfl, wr5_blk (heap_at hq k (Nat.le_refl _)) _ _ _ _ _, hwq, ht, by omega, wr5_below _ _ _ _ _ (hb.trans (k.mono hb.size)) hwq⟩
end Go.Proofs.YtfbnnofmplakjaaDoor
